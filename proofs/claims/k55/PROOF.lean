import PyProof.Rows.All
import Wide.All
import OpenK.AllK
import Wide.FinOn
import Lean
import PyProof.EqAt
import PyProof.EqKinds
import PyProof.TupleCall
import PyProof.NeKinds
import KE.KRevSl
import KE.KDictList
import PySem.Challenge.RW_tilefall_k55_whole_met_or_ring
set_option Elab.async false
set_option linter.all false
set_option maxRecDepth 100000
namespace L2
open PySem PySem.Spec PyProof.Rows
noncomputable abbrev Key := Sum Int Str
noncomputable def keyIs : Key → Value → Bool
  | .inl k, v => Value.isInt k v
  | .inr x, v => Value.isStrOf x v
noncomputable def keyH (w : World) : Key → Int
  | .inl k => hashInt k
  | .inr x => hashStr w x
theorem keyIs_shape : ∀ {k : Key} {v : Value}, keyIs k v = true → (∃ i t, k = Sum.inl i ∧ v = Value.int i t) ∨ (∃ x t, k = Sum.inr x ∧ v = Value.str x t)
  | .inl i, v, h => by
    obtain ⟨t, e⟩ := Value.isInt_shape (k := i) (v := v) h
    exact .inl ⟨i, t, rfl, e⟩
  | .inr x, v, h => by
    obtain ⟨t, e⟩ := Value.isStrOf_shape (x := x) (v := v) h
    exact .inr ⟨x, t, rfl, e⟩
theorem keyIs_int (i : Int) (t : Tok) : keyIs (.inl i) (.int i t) = true := by simp [keyIs, Value.isInt]
theorem keyIs_str (x : Str) (t : Tok) : keyIs (.inr x) (.str x t) = true := by simp [keyIs, Value.isStrOf]
theorem key_ll (a b : Int) : decide ((Sum.inl a : Key) = Sum.inl b) = (a == b) := by
  by_cases e : a = b
  · subst e; simp
  · have h : ¬ (Sum.inl a : Key) = Sum.inl b := fun q => e (Sum.inl.inj q)
    rw [decide_eq_false h]
    exact (beq_eq_false_iff_ne.mpr e).symm
theorem key_rr (a b : Str) : decide ((Sum.inr a : Key) = Sum.inr b) = decide (a = b) := by
  by_cases e : a = b
  · subst e; simp
  · have h : ¬ (Sum.inr a : Key) = Sum.inr b := fun q => e (Sum.inr.inj q)
    rw [decide_eq_false h, decide_eq_false e]
theorem key_lr (a : Int) (b : Str) : decide ((Sum.inl a : Key) = Sum.inr b) = false := decide_eq_false (fun q => nomatch q)
theorem key_rl (a : Str) (b : Int) : decide ((Sum.inr a : Key) = Sum.inl b) = false := decide_eq_false (fun q => nomatch q)
noncomputable def mixKind (prog : Program) (w : World) : PySem.KeyKind prog w Key where
  is := keyIs
  hash := keyH w
  inj := fun v a b ha hb => by
    rcases keyIs_shape ha with ⟨i, t, rfl, rfl⟩ | ⟨x, t, rfl, rfl⟩
    · rcases keyIs_shape hb with ⟨j, u, rfl, e⟩ | ⟨y, u, rfl, e⟩
      · injection e with e1 _; rw [e1]
      · exact nomatch e
    · rcases keyIs_shape hb with ⟨j, u, rfl, e⟩ | ⟨y, u, rfl, e⟩
      · exact nomatch e
      · injection e with e1 _; rw [e1]
  byValue := fun k v h => by
    rcases keyIs_shape h with ⟨i, t, rfl, rfl⟩ | ⟨x, t, rfl, rfl⟩ <;> rfl
  pyHash := fun hv h => by
    rcases keyIs_shape hv with ⟨i, t, rfl, rfl⟩ | ⟨x, t, rfl, rfl⟩
    · exact wpAny_pyHash_int h
    · exact wpAny_pyHash_str h
  eqBool := fun hu hv h => by
    rcases keyIs_shape hu with ⟨i, t, rfl, rfl⟩ | ⟨x, t, rfl, rfl⟩
    · rcases keyIs_shape hv with ⟨j, u, rfl, rfl⟩ | ⟨y, u, rfl, rfl⟩
      · rw [key_ll] at h; exact wpAny_eqBool_int h
      · rw [key_lr] at h; exact SeqAt.EqAt.int_str i t y u _ _ _ _ h
    · rcases keyIs_shape hv with ⟨j, u, rfl, rfl⟩ | ⟨y, u, rfl, rfl⟩
      · rw [key_rl] at h; exact SeqAt.EqAt.str_int x t j u _ _ _ _ h
      · rw [key_rr] at h; exact wpAny_eqBool_str h
  «strs» := fun k x t v h => by
    rcases keyIs_shape h with ⟨i, u, rfl, e⟩ | ⟨y, u, rfl, e⟩
    · exact nomatch e
    · injection e with e1 _
      subst e1
      cases v <;> rfl
theorem mixKind_int (prog : Program) (w : World) (i : Int) (t : Tok) : (mixKind prog w).is (.inl i) (.int i t) = true := keyIs_int i t
theorem mixKind_str (prog : Program) (w : World) (x : Str) (t : Tok) : (mixKind prog w).is (.inr x) (.str x t) = true := keyIs_str x t
end L2
namespace L2
open PySem PySem.Spec PyProof.Rows
inductive V where
  | non | bl (b : Bool) | int (i : Int) | str (x : Str) | byt (b : Array UInt8) | flt (b : UInt64) | ref (a : Addr) | ty (n : String)
  deriving DecidableEq
noncomputable def RelV : V → Value → Prop
  | .non, u => u = Value.none
  | .bl b, u => u = Value.bool b
  | .int i, u => ∃ t, u = Value.int i t
  | .str x, u => ∃ t, u = Value.str x t
  | .byt b, u => ∃ t, u = Value.bytes b t
  | .flt b, u => ∃ t, u = Value.float b t
  | .ref a, u => u = Value.ref a
  | .ty n, u => u = Value.type n
noncomputable abbrev Vals : List V → List Value → Prop := Paired RelV
theorem Vals.length {xs : List V} {us : List Value} (r : Vals xs us) : xs.length = us.length := Paired.length r
theorem Vals.get : ∀ {xs : List V} {us : List Value} {i : Nat} {x : V}, Vals xs us → xs[i]? = some x → ∃ u, us[i]? = some u ∧ RelV x u
  | _, _, _, _, .nil, e => by simp at e
  | _, _, 0, _, .cons r _, e => by simp at e; subst e; exact ⟨_, rfl, r⟩
  | _, _, i + 1, x, .cons _ t, e => by
    obtain ⟨u, h1, h2⟩ := Vals.get (i := i) (x := x) t (by simpa using e)
    exact ⟨u, by simpa using h1, h2⟩
theorem Vals.append : ∀ {xs ys : List V} {us ws : List Value}, Vals xs us → Vals ys ws → Vals (xs ++ ys) (us ++ ws)
  | _, _, _, _, .nil, s => s
  | _, _, _, _, .cons r t, s => .cons r (Vals.append t s)
theorem Vals.take : ∀ {xs : List V} {us : List Value} (n : Nat), Vals xs us → Vals (xs.take n) (us.take n)
  | _, _, 0, _ => .nil
  | _, _, _ + 1, .nil => .nil
  | _, _, n + 1, .cons r t => .cons r (Vals.take n t)
theorem Vals.drop : ∀ {xs : List V} {us : List Value} (n : Nat), Vals xs us → Vals (xs.drop n) (us.drop n)
  | _, _, 0, r => r
  | _, _, _ + 1, .nil => .nil
  | _, _, n + 1, .cons _ t => Vals.drop n t
noncomputable def RelO : Option V → Option Value → Prop
  | some v, some u => RelV v u
  | none, none => True
  | _, _ => False
noncomputable def KV {κ : Type} : List (κ × V) → List (κ × Value) → Prop := Paired fun (p : κ × V) (q : κ × Value) => p.1 = q.1 ∧ RelV p.2 q.2
noncomputable def kV : Key → V
  | .inl i => .int i
  | .inr x => .str x
inductive HO where
    | lst (xs : List V)
    | tup (xs : List V)
    | dK (kvs : List (Key × V)) | dT (kvs : List (List Key × V))
    | set (S : Int → Bool) (n : Nat)
    | ins (C dx : Addr) (fs : List (Str × V))
    | own (x : Addr)
    | xd (fs : List (Str × V))
    | met (f x : Addr)
    | rng (lo hi : Int)
    | frz (o : Obj) (u : HO)
    | tbl (ps : Array Value)
    | ext (φ : Heap → Prop)
noncomputable abbrev Hp := Addr → Option HO
noncomputable def upd (H : Hp) (a : Addr) (o : HO) : Hp := fun b => if b = a then some o else H b
theorem upd_same {H : Hp} {a : Addr} {o : HO} : upd H a o a = some o := by unfold upd; rw [if_pos rfl]
theorem upd_ne {H : Hp} {a b : Addr} {o : HO} (h : b ≠ a) : upd H a o b = H b := by unfold upd; rw [if_neg h]
theorem ne_of {H : Hp} {a b : Addr} {o u : HO} (h : H a = some o) (h' : H b = some u) (d : o ≠ u) : a ≠ b := by
  intro e; subst e; rw [h] at h'; exact d (Option.some.inj h')
theorem ne_of_none {H : Hp} {a b : Addr} {o : HO} (h : H a = some o) (h' : H b = none) : a ≠ b := by
  intro e; subst e; rw [h] at h'; cases h'
section
variable (P : Program) (w : World)
noncomputable def ObjOk (H : Hp) (h : Heap) (a : Addr) : HO → Prop
  | .lst xs => xs.length ≤ sizeLine ∧ ∃ (its : List Value) (n : Nat), Vals xs its ∧ h.get? a = some { cls := .type "list", data := .seq its.toArray n }
  | .tup xs => xs.length ≤ sizeLine ∧ ∃ its : List Value, Vals xs its ∧ IsTup h a its.toArray
  | .dK kvs => kvs.length ≤ sizeLine ∧ (a == sysModules) = false ∧ ∃ vs, KV kvs vs ∧ h.DictOf (mixKind P w) a vs
  | .dT kvs => kvs.length ≤ sizeLine ∧ (a == sysModules) = false ∧ ∃ xs : List (List Key × Addr × Value),
      Paired (fun (p : List Key × V) (q : List Key × Addr × Value) => p.1 = q.1 ∧ H q.2.1 = some (.tup (p.1.map kV)) ∧ RelV p.2 q.2.2) kvs xs ∧
      ∃ o es ep, h.get? a = some o ∧ o.ExactDict ∧ o.data = .dict es ep ∧ es.toList = xs.map (entryOfKey (tupleKind (mixKind P w))) ∧ (xs.map (·.1)).Nodup
  | .set S n => h.SetOf (intKind P w) a S n
  | .ins C dx fs => H dx = some (.own a) ∧ fs.length ≤ 1000 ∧ dx ≠ a ∧ h.get? a = some (PySem.W.instObj C dx) ∧
      ∃ mA, h.Ns1 dx mA ∧ (∀ f, RelO (fs.lookup f) (mA f)) ∧ PySem.Within mA (fs.map (·.1))
  | .own _ => ∃ o, h.get? a = some o
  | .xd fs => ∃ mA, h.Ns1 a mA ∧ ∀ f, RelO (fs.lookup f) (mA f)
  | .rng lo hi => ∃ t u v, h.get? a = some { cls := .type "range", data := .fields #[.int lo t, .int hi u, .int 1 v] }
  | .frz o u => h.get? a = some o ∧ ObjOk H h a u
  | .tbl ps => h.get? a = some { cls := .none, data := .fields ps }
  | .met f x => h.get? a = some (PySem.W.methodObj (.ref f) (.ref x))
  | .ext φ => φ h ∧ (∃ o, h.get? a = some o) ∧ ∀ h1 h2 : Heap, φ h1 → (∀ o, h1.get? a = some o → h2.get? a = some o) → φ h2
noncomputable def HOk (H : Hp) (h : Heap) : Prop := ∀ a o, H a = some o → ObjOk P w H h a o
end
section
variable {P : Program} {w : World} {H H' : Hp} {h h' : Heap} {a : Addr} {o : HO}
theorem ObjOk.lt (x : ObjOk P w H h a o) : a < h.objs.size := by
  cases o with
  | lst xs => obtain ⟨_, _, _, _, e⟩ := x; exact Heap.lt_size e
  | tup xs => obtain ⟨_, _, _, p⟩ := x; exact p.lt
  | dK kvs => obtain ⟨_, _, _, _, o, _, _, e, _⟩ := x; exact Heap.lt_size e
  | dT kvs => obtain ⟨_, _, _, _, o, _, _, e, _⟩ := x; exact Heap.lt_size e
  | set S n => obtain ⟨o, _, _, _, e, _⟩ := x; exact Heap.lt_size e
  | ins C dx fs => obtain ⟨_, _, _, e, _⟩ := x; exact Heap.lt_size e
  | own y => obtain ⟨_, e⟩ := x; exact Heap.lt_size e
  | xd fs => obtain ⟨_, ⟨_, _, _, e, _⟩, _⟩ := x; exact Heap.lt_size e
  | rng lo hi => obtain ⟨_, _, _, e⟩ := x; exact Heap.lt_size e
  | frz ob u => obtain ⟨e, _⟩ := x; exact Heap.lt_size e
  | tbl ps => exact Heap.lt_size (show h.get? a = some _ from x)
  | met f y => exact Heap.lt_size (show h.get? a = some _ from x)
  | ext φ => obtain ⟨_, ⟨_, e⟩, _⟩ := x; exact Heap.lt_size e
theorem Paired.mapP {α β : Type} {F G : α → β → Prop} : ∀ {l₁ : List α} {l₂ : List β}, Paired F l₁ l₂ → (∀ a b, F a b → G a b) → Paired G l₁ l₂
  | _, _, .nil, _ => .nil
  | _, _, .cons r t, f => .cons (f _ _ r) (Paired.mapP t f)
theorem ObjOk.stay (x : ObjOk P w H h a o) (k : ∀ b u, (b = a ∨ H b = some (.own a)) → h.get? b = some u → h'.get? b = some u)
    (ho : ∀ b, H b = some (.own a) → H' b = some (.own a)) (ht : ∀ b xs, H b = some (.tup xs) → H' b = some (.tup xs)) : ObjOk P w H' h' a o := by
  induction o with
  | lst xs => obtain ⟨z, its, n, r, e⟩ := x; exact ⟨z, its, n, r, k _ _ (.inl rfl) e⟩
  | tup xs => obtain ⟨z, its, r, ob, e, c⟩ := x; exact ⟨z, its, r, ob, k _ _ (.inl rfl) e, c⟩
  | dK kvs => obtain ⟨z, y, vs, r, ob, es, ep, e, c⟩ := x; exact ⟨z, y, vs, r, ob, es, ep, k _ _ (.inl rfl) e, c⟩
  | dT kvs =>
    obtain ⟨z, y, xs, r, ob, es, ep, e, c⟩ := x
    exact ⟨z, y, xs, Paired.mapP r fun p q z => ⟨z.1, ht _ _ z.2.1, z.2.2⟩, ob, es, ep, k _ _ (.inl rfl) e, c⟩
  | set S n => obtain ⟨ob, es, ep, t, e, c⟩ := x; exact ⟨ob, es, ep, t, k _ _ (.inl rfl) e, c⟩
  | ins C dx fs =>
    obtain ⟨d, z, ne, e, mA, ⟨od, es, ep, e2, c⟩, r⟩ := x
    exact ⟨ho _ d, z, ne, k _ _ (.inl rfl) e, mA, ⟨od, es, ep, k _ _ (.inr d) e2, c⟩, r⟩
  | own y => obtain ⟨ob, e⟩ := x; exact ⟨ob, k _ _ (.inl rfl) e⟩
  | xd fs => obtain ⟨mA, ⟨od, es, ep, e, c⟩, r⟩ := x; exact ⟨mA, ⟨od, es, ep, k _ _ (.inl rfl) e, c⟩, r⟩
  | rng lo hi => obtain ⟨t, u, v, e⟩ := x; exact ⟨t, u, v, k _ _ (.inl rfl) e⟩
  | frz ob u ih => obtain ⟨e, q⟩ := x; exact ⟨k _ _ (.inl rfl) e, ih q⟩
  | tbl ps =>
    have e : h.get? a = some { cls := .none, data := .fields ps } := x
    show h'.get? a = some { cls := .none, data := .fields ps }
    exact k a _ (.inl rfl) e
  | met f y =>
    have e : h.get? a = some (PySem.W.methodObj (.ref f) (.ref y)) := x
    show h'.get? a = some (PySem.W.methodObj (.ref f) (.ref y))
    exact k a _ (.inl rfl) e
  | ext φ => obtain ⟨p, ⟨o, e⟩, st⟩ := x; exact ⟨st _ _ p fun o q => k _ _ (.inl rfl) q, ⟨o, k _ _ (.inl rfl) e⟩, st⟩
theorem HOk.lt (x : HOk P w H h) (e : H a = some o) : a < h.objs.size := (x a o e).lt
theorem HOk.fresh (x : HOk P w H h) (e : h.objs.size ≤ a) : H a = none := by
  cases q : H a with
  | none => rfl
  | some u => exact absurd (Nat.lt_of_lt_of_le (x.lt q) e) (Nat.lt_irrefl _)
theorem HOk.kept (x : HOk P w H h) (k : ∀ b u, h.get? b = some u → h'.get? b = some u) : HOk P w H h' := fun a o e =>
  (x a o e).stay (fun b u _ q => k b u q) (fun _ q => q) fun _ _ q => q
theorem HOk.laid (x : HOk P w H h) (k : ∀ b u, h.get? b = some u → h'.get? b = some u) (hp : h.objs.size ≤ a) (new : ObjOk P w (upd H a o) h' a o) : HOk P w (upd H a o) h' := fun b u e => by
  have hn := x.fresh hp
  by_cases hb : b = a
  · subst hb; rw [upd_same] at e; cases e; exact new
  · rw [upd_ne hb] at e
    exact (x b u e).stay (fun c v _ q => k c v q) (fun c q => by rw [upd_ne (ne_of_none q hn)]; exact q) fun c xs q => by rw [upd_ne (ne_of_none q hn)]; exact q
end
noncomputable def Rd (H : Hp) (a : Addr) (u : HO) : Prop := H a = some u ∨ ∃ o, H a = some (.frz o u)
theorem Rd.ok {P : Program} {w : World} {H : Hp} {h : Heap} {a : Addr} {u : HO} (r : Rd H a u) (x : HOk P w H h) : ObjOk P w H h a u := by
  rcases r with r | ⟨o, r⟩
  · exact x a u r
  · obtain ⟨_, q⟩ := x a _ r
    exact q
noncomputable def Mut : Option HO → Prop
  | some (.lst _) => True
  | some (.dK _) => True
  | some (.dT _) => True
  | some (.set _ _) => True
  | some (.ins _ _ _) => True
  | some (.ext _) => True
  | _ => False
section
variable {P : Program} {w : World} {H : Hp} {h h' : Heap} {x e : Addr} {o' : HO}
theorem HOk.write (ok : HOk P w H h) (mu : Mut (H x)) (he : e = x ∨ H e = some (.own x)) (k : ∀ b u, b ≠ e → h.get? b = some u → h'.get? b = some u) (heo : ∃ u, h'.get? e = some u)
    (new : ObjOk P w (upd H x o') h' x o') : HOk P w (upd H x o') h' := fun b u q => by
  have nown : ∀ c y, H c = some (.own y) → c ≠ x := fun c y r z => by subst z; rw [r] at mu; exact mu
  have ntup : ∀ c xs, H c = some (.tup xs) → c ≠ x := fun c xs r z => by subst z; rw [r] at mu; exact mu
  by_cases hb : b = x
  · subst hb; rw [upd_same] at q; cases q; exact new
  · rw [upd_ne hb] at q
    by_cases hbe : b = e
    · have q' : H b = some (.own x) := by
        rcases he with z | z
        · exact absurd (hbe.trans z) hb
        · rw [hbe]; exact z
      rw [q] at q'; cases q'
      obtain ⟨v, hv⟩ := heo
      exact ⟨v, by rw [hbe]; exact hv⟩
    · refine (ok b u q).stay (fun c v hc r => k c v ?_ r) (fun c r => by rw [upd_ne (nown c b r)]; exact r) fun c xs r => by rw [upd_ne (ntup c xs r)]; exact r
      rcases hc with rfl | hc
      · exact hbe
      · rintro rfl
        rcases he with z | z
        · exact nown c b hc z
        · rw [hc] at z; cases z; exact hb rfl
end
structure Un (fs ex : List Addr) (H H' : Hp) (h h' : Heap) : Prop where
  keep : ∀ b o, h.get? b = some o → H b = none → b ∉ fs → b ∉ ex → h'.get? b = some o
  slot : ∀ b o, h.get? b = some o → H b = none → b ∈ fs → b ∉ ex → ∃ sl, h'.get? b = some { o with slots := sl }
  free : ∀ b o, h.get? b = some o → H b = none → b ∉ ex → H' b = none
  there : ∀ b o, h.get? b = some o → b ∉ ex → ∃ o', h'.get? b = some o'
  tups : ∀ b xs, H b = some (.tup xs) → H' b = some (.tup xs)
  frzs : ∀ b o u, H b = some (.frz o u) → H' b = some (.frz o u)
  tbls : ∀ b ps, H b = some (.tbl ps) → ∃ more, H' b = some (.tbl (ps ++ more))
section
variable {fs fs' ex ex' : List Addr} {H H1 H2 : Hp} {h h1 h2 h' : Heap} {a x e : Addr} {o : HO}
theorem Un.any (u : Un fs ex H H1 h h1) {b : Addr} {ob : Obj} (q : h.get? b = some ob) (n : H b = none) (hx : b ∉ ex) : ∃ sl, h1.get? b = some { ob with slots := sl } := by
  by_cases hb : b ∈ fs
  · exact u.slot b ob q n hb hx
  · exact ⟨ob.slots, u.keep b ob q n hb hx⟩
theorem Un.trans (a : Un fs ex H H1 h h1) (b : Un fs ex H1 H2 h1 h2) : Un fs ex H H2 h h2 where
  keep := fun c ob q n hc hx => b.keep c ob (a.keep c ob q n hc hx) (a.free c ob q n hx) hc hx
  slot := fun c ob q n hc hx => by
    obtain ⟨sl, e1⟩ := a.slot c ob q n hc hx
    obtain ⟨sl', e2⟩ := b.slot c _ e1 (a.free c ob q n hx) hc hx
    exact ⟨sl', e2⟩
  free := fun c ob q n hx => by
    obtain ⟨o', e1⟩ := a.there c ob q hx
    exact b.free c o' e1 (a.free c ob q n hx) hx
  there := fun c ob q hx => by
    obtain ⟨o', e1⟩ := a.there c ob q hx
    exact b.there c o' e1 hx
  tups := fun c xs q => b.tups c xs (a.tups c xs q)
  frzs := fun c ob xs q => b.frzs c ob xs (a.frzs c ob xs q)
  tbls := fun c ps q => by
    obtain ⟨m1, e1⟩ := a.tbls c ps q
    obtain ⟨m2, e2⟩ := b.tbls c _ e1
    exact ⟨m1 ++ m2, by rw [e2, Array.append_assoc]⟩
theorem Un.kept (k : ∀ b u, h.get? b = some u → h'.get? b = some u) : Un fs ex H H h h' :=
  ⟨fun b ob q _ _ _ => k b ob q, fun b ob q _ _ _ => ⟨ob.slots, k b ob q⟩, fun _ _ _ n _ => n, fun b ob q _ => ⟨ob, k b ob q⟩, fun _ _ q => q, fun _ _ _ q => q, fun _ ps q => ⟨#[], by rw [q]; simp⟩⟩
theorem Un.refl : Un fs ex H H h h := Un.kept fun _ _ q => q
theorem Un.laid (k : ∀ b u, h.get? b = some u → h'.get? b = some u) (hp : h.objs.size ≤ a) (hn : H a = none) : Un fs ex H (upd H a o) h h' where
  keep := fun b u q _ _ _ => k b u q
  slot := fun b u q _ _ _ => ⟨u.slots, k b u q⟩
  free := fun b u q n _ => by rw [upd_ne (Nat.ne_of_lt (Nat.lt_of_lt_of_le (Heap.lt_size q) hp))]; exact n
  there := fun b u q _ => ⟨u, k b u q⟩
  tups := fun b xs q => by rw [upd_ne (ne_of_none q hn)]; exact q
  frzs := fun b u xs q => by rw [upd_ne (ne_of_none q hn)]; exact q
  tbls := fun b ps q => ⟨#[], by rw [upd_ne (ne_of_none q hn), q]; simp⟩
theorem Un.write (mu : Mut (H x)) (he : e = x ∨ H e = some (.own x)) (k : ∀ b u, b ≠ e → h.get? b = some u → h'.get? b = some u) (heo : ∃ u, h'.get? e = some u) : Un fs ex H (upd H x o) h h' := by
  have hx : ∀ b, H b = none → b ≠ x := fun b n z => by subst z; rw [n] at mu; exact mu
  have hb : ∀ b, H b = none → b ≠ e := fun b n z => by
    subst z
    rcases he with r | r
    · exact hx b n r
    · rw [n] at r; cases r
  have hm : ∀ b u, H b = some u → ¬ Mut (some u) → b ≠ x := fun b u q nm z => by subst z; rw [q] at mu; exact nm mu
  refine ⟨fun b u q n _ _ => k b u (hb b n) q, fun b u q n _ _ => ⟨u.slots, k b u (hb b n) q⟩, fun b u q n _ => by rw [upd_ne (hx b n)]; exact n, fun b u q _ => ?_,
    fun b xs q => by rw [upd_ne (hm b _ q fun z => z)]; exact q, fun b u xs q => by rw [upd_ne (hm b _ q fun z => z)]; exact q, fun b ps q => ⟨#[], by rw [upd_ne (hm b _ q fun z => z), q]; simp⟩⟩
  by_cases hbe : b = e
  · subst hbe; exact heo
  · exact ⟨u, k b u hbe q⟩
end
noncomputable def trk (h : Heap) (H : Hp) : List Addr := (List.range h.objs.size).filter fun a => (H a).isSome
noncomputable def hidT (h : Heap) (H : Hp) : Heap := PySem.W.hideAll h (trk h H)
theorem hidT_size (h : Heap) (H : Hp) : (hidT h H).objs.size = h.objs.size := PySem.W.hideAll_size _ _
theorem hidT_get {h : Heap} {H : Hp} {b : Addr} {o : Obj} (e : h.get? b = some o) (n : H b = none) : (hidT h H).get? b = some o :=
  PySem.W.hideAll_get _ e fun hm => by
    have q : (H b).isSome = true := (List.mem_filter.mp hm).2
    rw [n] at q; simp at q
theorem of_hidT {h : Heap} {H : Hp} {b : Addr} {o : Obj} (e : (hidT h H).get? b = some o) : h.get? b = some o ∧ H b = none := by
  have e' : h.get? b = some o := PySem.W.of_hideAll (trk h H) e
  refine ⟨e', ?_⟩
  cases q : H b with
  | none => rfl
  | some x =>
    have hm : b ∈ trk h H := List.mem_filter.mpr ⟨List.mem_range.mpr (Heap.lt_size e'), by simp [q]⟩
    have z : (hidT h H).get? b = none := PySem.W.hideAll_none (trk h H) hm
    rw [z] at e; cases e
noncomputable def allNews (g h : Heap) (L : Addr) : List (Addr × Obj) := (List.range h.objs.size).filterMap fun a => if a = L ∨ (g.get? a).isSome = true then none else (h.get? a).map fun o => (a, o)
noncomputable def rest (g h : Heap) (L d : Addr) : List (Addr × Obj) := (allNews g h L).filter fun p => decide (p.1 ≠ d)
end L2
namespace L2
open PySem PySem.Spec PyProof.Rows
structure Mod (K : PySem.W.Frag) (mg : Str → Option Value) (base : Heap) : Prop where
  kin : K.In base
  glob : base.Ns mainGlobals mg
  blt : ∃ mb, base.Ns builtinsNs mb ∧ ∀ x : Str, x ≠ "__name__" → mb x = bootBuiltins x
  nolimit : base.NoLimit
structure Cx where
  prog : Program
  w : World
  K : PySem.W.Frag
  mg : Str → Option Value
  base : Heap
  A : Around
  N : List Str
  s₀ : Shared
  H₀ : Hp
  env : Env
  outer : List Env
  stack : List Env
  ex : List Addr
  fn : Str → Bool
  calm : Bool
  pn : List (Addr × Obj)
  xe : Value → Shared → Prop
noncomputable def frs (l : List Env) : List Addr := l.filterMap (·.frame)
noncomputable abbrev Cx.fs (X : Cx) : List Addr := frs X.outer
noncomputable def Vis (sc : Scope) (x : Str) : Prop := sc.names.lookup x = some .local ∨ sc.names.lookup x = some .cell ∨ sc.names.lookup x = some .free
noncomputable def Loc (sc : Scope) (x : Str) : Prop := sc.names.lookup x = some .local ∨ sc.names.lookup x = some .cell
noncomputable def Look (env : Env) (h : Heap) (m : Str → Option Value) (x : Str) (u : Value) : Prop :=
  (env.kindOf x = some .local ∧ m x = some u) ∨ ((env.kindOf x = some .cell ∨ env.kindOf x = some .free) ∧ ∃ c, env.cells.lookup x = some c ∧ h.IsCell c (some u))
structure Cx.Ok (X : Cx) : Prop where
  mod : Mod X.K X.mg X.base
  kind : X.env.scope.kind = .function
  glob : X.env.globals = mainGlobals
  blt : X.env.builtins = builtinsNs
  above : X.s₀.heap.objs.size ≤ X.env.locals
  inj : ∀ x y c, X.env.cells.lookup x = some c → X.env.cells.lookup y = some c → x = y
  has : ∀ x, (X.env.kindOf x = some .cell ∨ X.env.kindOf x = some .free) → ∃ c, X.env.cells.lookup x = some c
  cab : ∀ x c, X.fn x = true → X.env.cells.lookup x = some c → X.s₀.heap.objs.size ≤ c
  hd : X.calm = true → X.A.handled = none
  frames : X.A.frames = some X.stack
  stk : X.stack = X.outer ∨ (X.stack = X.env :: X.outer ∧ X.env.frame = some X.env.locals)
  exf : ∀ b ∈ X.ex, b ≠ X.env.locals ∧ ∀ x c, X.env.cells.lookup x = some c → c ≠ b
  bs : ∀ b o, X.base.get? b = some o → X.s₀.heap.get? b = some o ∧ X.H₀ b = none
  bsz : X.base.objs.size ≤ X.s₀.heap.objs.size
  noex : ∀ b o, X.base.get? b = some o → b ∉ X.ex
  exfs : ∀ b ∈ X.ex, b ∉ X.fs
  funs : X.s₀.heap.FunFrames X.base X.outer
  frf : ∀ b ∈ X.fs, X.H₀ b = none
structure Inv (X : Cx) (pins : List (Addr × Obj)) (σ : List (Option V)) (H : Hp) (s : Shared) : Prop where
  ok : X.Ok
  os : s.os = X.s₀.os
  bare : AllBare s.gens
  base : Un X.fs X.ex X.H₀ H X.s₀.heap s.heap
  loc : ∃ m, s.heap.Ns X.env.locals m ∧ ∀ (i : Nat) (x : Str) (v : V), X.N[i]? = some x → σ[i]? = some (some v) → Vis X.env.scope x → ∃ u, RelV v u ∧ Look X.env s.heap m x u
  cell : ∀ x c, X.env.cells.lookup x = some c → ∃ v, s.heap.IsCell c v
  free : H X.env.locals = none
  freeC : ∀ x c, X.env.cells.lookup x = some c → H c = none
  pin : ∀ p ∈ X.pn ++ pins, s.heap.get? p.1 = some p.2 ∧ H p.1 = none ∧ p.1 ≠ X.env.locals ∧ p.1 ∉ X.fs ∧ ∀ v, p.2.data ≠ .cell v
  hok : HOk X.prog X.w H s.heap
  len : σ.length = X.N.length
section
variable {X : Cx} {pins : List (Addr × Obj)} {σ : List (Option V)} {H H' : Hp} {s : Shared} {h' : Heap}
theorem Cx.Ok.nofr (ok : X.Ok) {b : Addr} {o : Obj} (e : X.base.get? b = some o) : b ∉ X.fs := fun hb => by
  have := (ok.funs.mem hb).1
  rw [e] at this; cases this
theorem Inv.bs (I : Inv X pins σ H s) : ∀ b o, X.base.get? b = some o → s.heap.get? b = some o ∧ H b = none := fun b o e =>
  ⟨I.base.keep b o (I.ok.bs b o e).1 (I.ok.bs b o e).2 (I.ok.nofr e) (I.ok.noex b o e), I.base.free b o (I.ok.bs b o e).1 (I.ok.bs b o e).2 (I.ok.noex b o e)⟩
theorem Inv.bk (I : Inv X pins σ H s) : ∀ b o, X.base.get? b = some o → s.heap.get? b = some o := fun b o e => (I.bs b o e).1
theorem Inv.mod (I : Inv X pins σ H s) : Mod X.K X.mg X.base := I.ok.mod
theorem Inv.kIn (I : Inv X pins σ H s) : X.K.In s.heap := I.ok.mod.kin.keeps I.bk
theorem Inv.lt (I : Inv X pins σ H s) : X.env.locals < s.heap.objs.size := let ⟨_, hn, _⟩ := I.loc; hn.lt
theorem Inv.sz (I : Inv X pins σ H s) : X.s₀.heap.objs.size ≤ s.heap.objs.size := Nat.le_trans I.ok.above (Nat.le_of_lt I.lt)
theorem Inv.nofs (I : Inv X pins σ H s) {a : Addr} (h : s.heap.objs.size ≤ a) : a ∉ X.fs := fun hb => by
  obtain ⟨_, o, ho, _⟩ := I.ok.funs.mem hb
  exact absurd (Nat.lt_of_lt_of_le (Heap.lt_size ho) (Nat.le_trans I.sz h)) (Nat.lt_irrefl _)
theorem Inv.cne (I : Inv X pins σ H s) : ∀ x c, X.env.cells.lookup x = some c → c ≠ X.env.locals := fun x c e z => by
  obtain ⟨v, o, ho, hd⟩ := I.cell x c e
  obtain ⟨m, ⟨o', es, ep, ho', hd', _⟩, _⟩ := I.loc
  rw [z, ho'] at ho; cases ho; rw [hd'] at hd; cases hd
theorem Inv.funs (I : Inv X pins σ H s) : s.heap.FunFrames X.base X.outer := by
  have all : ∀ (l : List Env), (∀ b ∈ frs l, b ∈ X.fs) → X.s₀.heap.FunFrames X.base l → s.heap.FunFrames X.base l := by
    intro l
    induction l with
    | nil => intro _ _; trivial
    | cons env r ih =>
      intro hs hl
      obtain ⟨hk, ⟨L, o, hf, hn, ho, hd⟩, hr⟩ := hl
      have hL : L ∈ X.fs := hs L (by unfold frs; rw [List.filterMap_cons, hf]; exact List.mem_cons_self)
      obtain ⟨sl, e⟩ := I.base.slot L o ho (I.ok.frf L hL) hL fun z => I.ok.exfs L z hL
      exact ⟨hk, ⟨L, _, hf, hn, e, hd⟩, ih (fun b hb => hs b (by unfold frs; rw [List.filterMap_cons, hf]; exact List.mem_cons_of_mem _ hb)) hr⟩
  exact all X.outer (fun _ hb => hb) I.ok.funs
theorem Inv.stack (I : Inv X pins σ H s) : s.heap.FunFrames X.base X.stack := by
  rcases I.ok.stk with e | ⟨e, hf⟩
  · rw [e]; exact I.funs
  · rw [e]
    obtain ⟨m, hn, _⟩ := I.loc
    refine .cons (by rw [I.ok.kind]; decide) hf hn ?_ I.funs
    exact Heap.get?_none_of_le (Nat.le_trans I.ok.bsz I.ok.above)
theorem Inv.stkSub (I : Inv X pins σ H s) : ∀ b ∈ frs X.stack, b ∈ X.env.locals :: X.fs := fun b hb => by
  rcases I.ok.stk with e | ⟨e, hf⟩
  · rw [e] at hb; exact List.mem_cons_of_mem _ hb
  · rw [e] at hb
    unfold frs at hb
    rw [List.filterMap_cons, hf] at hb
    exact hb
theorem Inv.stkFree (I : Inv X pins σ H s) : ∀ b ∈ frs X.stack, H b = none := fun b hb => by
  rcases List.mem_cons.mp (I.stkSub b hb) with e | hb
  · rw [e]; exact I.free
  · obtain ⟨_, o, ho, _⟩ := I.ok.funs.mem hb
    exact I.base.free b o ho (I.ok.frf b hb) fun z => I.ok.exfs b z hb
theorem Inv.step {g' : Array GenState} {t' : Nat} {d' : Drawn} {ch : List Addr} (I : Inv X pins σ H s)
    (hch : ∀ b ∈ ch, (b ∈ X.ex ∨ X.s₀.heap.objs.size ≤ b) ∧ b ≠ X.env.locals ∧ (∀ x c, X.env.cells.lookup x = some c → c ≠ b) ∧ ∀ p ∈ X.pn ++ pins, p.1 ≠ b)
    (keep : ∀ b o, b ≠ X.env.locals → b ∉ X.fs → b ∉ ch → s.heap.get? b = some o → H b = none → h'.get? b = some o)
    (slot : ∀ b o, b ≠ X.env.locals → b ∈ X.fs → b ∉ ch → s.heap.get? b = some o → H b = none → ∃ sl, h'.get? b = some { o with slots := sl }) (free : ∀ b o, b ∉ ch → s.heap.get? b = some o → H b = none → H' b = none)
    (there : ∀ b o, b ∉ ch → s.heap.get? b = some o → ∃ o', h'.get? b = some o')
    (tups : ∀ b xs, H b = some (.tup xs) → H' b = some (.tup xs)) (frzs : ∀ b o u, H b = some (.frz o u) → H' b = some (.frz o u)) (tbls : ∀ b ps, H b = some (.tbl ps) → ∃ more, H' b = some (.tbl (ps ++ more)))
    (ns : ∀ m, s.heap.Ns X.env.locals m → h'.Ns X.env.locals m) (hok : HOk X.prog X.w H' h') (hg : AllBare g') :
    Inv X pins σ H' { s with heap := h', gens := g', drawn := d', toks := t' } := by
  have neL : ∀ b o, X.s₀.heap.get? b = some o → b ≠ X.env.locals := fun b o e => Nat.ne_of_lt (Nat.lt_of_lt_of_le (Heap.lt_size e) I.ok.above)
  have neC : ∀ b o, X.s₀.heap.get? b = some o → b ∉ X.ex → b ∉ ch := fun b o e hx hb => by
    rcases (hch b hb).1 with z | z
    · exact hx z
    · exact absurd (Nat.lt_of_lt_of_le (Heap.lt_size e) z) (Nat.lt_irrefl _)
  have cellK : ∀ x c, X.env.cells.lookup x = some c → ∀ v, s.heap.IsCell c v → h'.IsCell c v := fun x c e v ⟨o, ho, hd⟩ => by
    have nch : c ∉ ch := fun z => (hch c z).2.2.1 x c e rfl
    by_cases hc : c ∈ X.fs
    · obtain ⟨sl, q⟩ := slot c o (I.cne x c e) hc nch ho (I.freeC x c e)
      exact ⟨_, q, hd⟩
    · exact ⟨o, keep c o (I.cne x c e) hc nch ho (I.freeC x c e), hd⟩
  refine ⟨I.ok, I.os, hg, ⟨fun b o e n hb hx => ?_, fun b o e n hb hx => ?_, fun b o e n hx => ?_, fun b o e hx => ?_, fun b xs e => tups b xs (I.base.tups b xs e), fun b o xs e => frzs b o xs (I.base.frzs b o xs e), fun b ps e => ?_⟩, ?_, fun x c e => ?_, ?_, fun x c e => ?_, fun p hp => ?_, hok, I.len⟩
  · exact keep b o (neL b o e) hb (neC b o e hx) (I.base.keep b o e n hb hx) (I.base.free b o e n hx)
  · obtain ⟨sl, e1⟩ := I.base.slot b o e n hb hx
    obtain ⟨sl', e2⟩ := slot b _ (neL b o e) hb (neC b o e hx) e1 (I.base.free b o e n hx)
    exact ⟨sl', e2⟩
  · obtain ⟨o', e1⟩ := I.base.there b o e hx
    exact free b o' (neC b o e hx) e1 (I.base.free b o e n hx)
  · obtain ⟨o', e1⟩ := I.base.there b o e hx
    exact there b o' (neC b o e hx) e1
  · obtain ⟨m1, e1⟩ := I.base.tbls b ps e
    obtain ⟨m2, e2⟩ := tbls b _ e1
    exact ⟨m1 ++ m2, by rw [e2, Array.append_assoc]⟩
  · obtain ⟨m, hn, hl⟩ := I.loc
    refine ⟨m, ns m hn, fun i x v e1 e2 e3 => ?_⟩
    obtain ⟨u, r, l⟩ := hl i x v e1 e2 e3
    refine ⟨u, r, ?_⟩
    rcases l with l | ⟨k, c, e, z⟩
    · exact .inl l
    · exact .inr ⟨k, c, e, cellK x c e _ z⟩
  · obtain ⟨v, z⟩ := I.cell x c e
    exact ⟨v, cellK x c e v z⟩
  · obtain ⟨m, ⟨o, _, _, ho, _⟩, _⟩ := I.loc
    exact free _ o (fun z => (hch _ z).2.1 rfl) ho I.free
  · obtain ⟨v, o, ho, hd⟩ := I.cell x c e
    exact free c o (fun z => (hch c z).2.2.1 x c e rfl) ho (I.freeC x c e)
  · obtain ⟨e, n, ne, nf, d⟩ := I.pin p hp
    have nch : p.1 ∉ ch := fun z => (hch p.1 z).2.2.2 p hp rfl
    exact ⟨keep p.1 p.2 ne nf nch e n, free p.1 p.2 nch e n, ne, nf, d⟩
theorem Inv.un {t' : Nat} (I : Inv X pins σ H s) (u : Un X.fs [] H H' s.heap h') (hok : HOk X.prog X.w H' h') : Inv X pins σ H' { s with heap := h', toks := t' } := by
  obtain ⟨m, ⟨o, es, ep, ho, r⟩, _⟩ := id I.loc
  obtain ⟨sl, hL⟩ := u.any ho I.free (by simp)
  exact I.step (g' := s.gens) (d' := s.drawn) (ch := []) (fun _ z => nomatch z) (fun b o _ hb _ e n => u.keep b o e n hb (by simp)) (fun b o _ hb _ e n => u.slot b o e n hb (by simp)) (fun b o _ e n => u.free b o e n (by simp)) (fun b o _ e => u.there b o e (by simp)) u.tups u.frzs u.tbls (fun m' hm => by
    obtain ⟨o', es', ep', ho', r'⟩ := hm
    rw [ho] at ho'; cases ho'
    exact ⟨_, es', ep', hL, r'⟩) hok I.bare
theorem Inv.call {g' : Array GenState} {t' : Nat} {d' : Drawn} {ch : List Addr} (I : Inv X pins σ H s) (u : Un (frs X.stack) ch H H' s.heap h') (hok : HOk X.prog X.w H' h') (hg : AllBare g')
    (hch : ∀ b ∈ ch, (b ∈ X.ex ∨ X.s₀.heap.objs.size ≤ b) ∧ b ≠ X.env.locals ∧ (∀ x c, X.env.cells.lookup x = some c → c ≠ b) ∧ ∀ p ∈ X.pn ++ pins, p.1 ≠ b) :
    Inv X pins σ H' { s with heap := h', gens := g', drawn := d', toks := t' } := by
  obtain ⟨m, ⟨o, es, ep, ho, r⟩, _⟩ := id I.loc
  obtain ⟨sl, hL⟩ := u.any ho I.free fun z => (hch _ z).2.1 rfl
  exact I.step (ch := ch) hch (fun b o hL hb hc e n => u.keep b o e n (fun z => (List.mem_cons.mp (I.stkSub b z)).elim hL hb) hc) (fun b o _ _ hc e n => u.any e n hc) (fun b o hc e n => u.free b o e n hc) (fun b o hc e => u.there b o e hc) u.tups u.frzs u.tbls (fun m' hm => by
    obtain ⟨o', es', ep', ho', r'⟩ := hm
    rw [ho] at ho'; cases ho'
    exact ⟨_, es', ep', hL, r'⟩) hok hg
theorem Inv.turned {t' : Nat} {it : Addr} (I : Inv X pins σ H s) (k : ∀ b o, b ≠ it → s.heap.get? b = some o → h'.get? b = some o) (hn : H it = none) (hL : it ≠ X.env.locals)
    (h1 : it ∈ X.ex ∨ X.s₀.heap.objs.size ≤ it) (h2 : ∀ x c, X.env.cells.lookup x = some c → c ≠ it) (h3 : ∀ p ∈ X.pn ++ pins, p.1 ≠ it) : Inv X pins σ H { s with heap := h', toks := t' } := by
  have nit : ∀ b u, H b = some u → b ≠ it := fun b u e z => by rw [z, hn] at e; cases e
  refine I.step (g' := s.gens) (d' := s.drawn) (ch := [it]) (fun b hb => ?_) (fun b o _ _ hc e _ => k b o (fun z => hc (by simp [z])) e) (fun b o _ _ hc e _ => ⟨o.slots, k b o (fun z => hc (by simp [z])) e⟩) (fun _ _ _ _ n => n)
    (fun b o hc e => ⟨o, k b o (fun z => hc (by simp [z])) e⟩) (fun _ _ e => e) (fun _ _ _ e => e) (fun b ps e => ⟨#[], by rw [e]; simp⟩) (fun m hm => ?_) (fun b u e => ?_) I.bare
  · have e : b = it := by simpa using hb
    subst e
    exact ⟨h1, hL, h2, h3⟩
  · obtain ⟨o, es, ep, ho, r⟩ := hm
    exact ⟨o, es, ep, k _ o (Ne.symm hL) ho, r⟩
  · refine (I.hok b u e).stay (fun c v hc q => k c v ?_ q) (fun _ q => q) fun _ _ q => q
    rcases hc with z | z
    · rw [z]; exact nit b u e
    · exact nit c _ z
theorem Inv.tok (I : Inv X pins σ H s) (t : Nat) : Inv X pins σ H { s with toks := t } := I.un (h' := s.heap) (t' := t) Un.refl I.hok
theorem Inv.kept {t' : Nat} (I : Inv X pins σ H s) (k : ∀ b u, s.heap.get? b = some u → h'.get? b = some u) : Inv X pins σ H { s with heap := h', toks := t' } := I.un (Un.kept k) (I.hok.kept k)
theorem Inv.laid {a : Addr} {o : HO} {t' : Nat} (I : Inv X pins σ H s) (k : ∀ b u, s.heap.get? b = some u → h'.get? b = some u) (hp : s.heap.objs.size ≤ a) (new : ObjOk X.prog X.w (upd H a o) h' a o) :
    Inv X pins σ (upd H a o) { s with heap := h', toks := t' } := I.un (Un.laid k hp (I.hok.fresh hp)) (I.hok.laid k hp new)
theorem Inv.write {x e : Addr} {o : HO} {t' : Nat} (I : Inv X pins σ H s) (mu : Mut (H x)) (he : e = x ∨ H e = some (.own x)) (k : ∀ b u, b ≠ e → s.heap.get? b = some u → h'.get? b = some u) (heo : ∃ u, h'.get? e = some u)
    (new : ObjOk X.prog X.w (upd H x o) h' x o) : Inv X pins σ (upd H x o) { s with heap := h', toks := t' } := I.un (Un.write mu he k heo) (I.hok.write mu he k heo new)
theorem Inv.pins_of {pins' : List (Addr × Obj)} (I : Inv X pins σ H s) (h : ∀ p ∈ pins', s.heap.get? p.1 = some p.2 ∧ H p.1 = none ∧ p.1 ≠ X.env.locals ∧ p.1 ∉ X.fs ∧ ∀ v, p.2.data ≠ .cell v) : Inv X pins' σ H s :=
  ⟨I.ok, I.os, I.bare, I.base, I.loc, I.cell, I.free, I.freeC, fun p hp => (List.mem_append.mp hp).elim (fun z => I.pin p (List.mem_append_left _ z)) (h p), I.hok, I.len⟩
theorem nodup_ix {N : List Str} (hN : N.Nodup) {i j : Nat} {x : Str} (a : N[i]? = some x) (b : N[j]? = some x) : i = j := by
  obtain ⟨h1, e1⟩ := List.getElem?_eq_some_iff.mp a
  obtain ⟨h2, e2⟩ := List.getElem?_eq_some_iff.mp b
  exact (List.getElem_inj hN).mp (e1.trans e2.symm)
theorem store_ok2 {M : Model} {A : Around} {E : Value → Shared → Prop} {i : Nat} {x : Str} {v : V} {u : Value} {Q : Unit → Shared → Prop} (I : Inv X pins σ H s) (hN : X.N.Nodup) (hi : X.N[i]? = some x) (hx : Loc X.env.scope x) (r : RelV v u)
    (h : ∀ s', Inv X pins (σ.set i (some v)) H s' → (∃ a, Heap.SameBut a s.heap s'.heap ∧ (a = X.env.locals ∨ X.env.cells.lookup x = some a)) → Q () s') (hf : X.fn x = true ∨ X.env.scope.names.lookup x = some .local := by first | exact .inl rfl | exact .inr rfl | assumption) : wpAny M A (storeName X.env x u) Q E s := by
  obtain ⟨m, hn, hl⟩ := id I.loc
  have hcls : (X.env.scope.kind == .class || (X.env.scope.kind == .module && X.env.locals != X.env.globals)) = false := by rw [I.ok.kind]; rfl
  have hiσ : i < σ.length := by rw [I.len]; exact (List.getElem?_eq_some_iff.mp hi).1
  have cne := I.cne
  have tracked : ∀ {a : Addr} {h' : Heap}, (∃ o, s.heap.get? a = some o ∧ H a = none) → Heap.SameBut a s.heap h' → HOk X.prog X.w H h' := fun {a h'} ha hs b ob e => by
    obtain ⟨_, _, hfree⟩ := ha
    refine (I.hok b ob e).stay (fun c w' hc q => (hs.2 c ?_).trans q) (fun _ q => q) fun _ _ q => q
    rintro rfl
    rcases hc with rfl | hc
    · rw [hfree] at e; cases e
    · rw [hfree] at hc; cases hc
  rcases hx with hk | hk
  · refine wpAny_storeName_local hk hn (fun h' hn' hs => ?_) hcls
    obtain ⟨oL, _, _, hoL, _⟩ := id hn
    refine h _ ⟨I.ok, I.os, I.bare, ⟨fun b o e n hb hx => ?_, fun b o e n hb hx => ?_, I.base.free, fun b o e hx => ?_, I.base.tups, I.base.frzs, I.base.tbls⟩, ⟨_, hn', fun j y v' e1 e2 e3 => ?_⟩, fun y c e => ?_, I.free, I.freeC, fun p hp => ?_, tracked ⟨oL, hoL, I.free⟩ hs, by simpa using I.len⟩ ⟨_, hs, .inl rfl⟩
    · exact (hs.2 b (Nat.ne_of_lt (Nat.lt_of_lt_of_le (Heap.lt_size e) I.ok.above))).trans (I.base.keep b o e n hb hx)
    · obtain ⟨sl, e1⟩ := I.base.slot b o e n hb hx
      exact ⟨sl, (hs.2 b (Nat.ne_of_lt (Nat.lt_of_lt_of_le (Heap.lt_size e) I.ok.above))).trans e1⟩
    · obtain ⟨o', e1⟩ := I.base.there b o e hx
      exact ⟨o', (hs.2 b (Nat.ne_of_lt (Nat.lt_of_lt_of_le (Heap.lt_size e) I.ok.above))).trans e1⟩
    · by_cases hj : j = i
      · subst hj
        rw [hi] at e1; cases e1
        rw [List.getElem?_set_self hiσ] at e2
        cases e2
        exact ⟨u, r, .inl ⟨hk, by simp⟩⟩
      · rw [List.getElem?_set_ne (Ne.symm hj)] at e2
        obtain ⟨u', r', q⟩ := hl j y v' e1 e2 e3
        refine ⟨u', r', ?_⟩
        rcases q with ⟨k, e⟩ | ⟨k, c, e, z⟩
        · refine .inl ⟨k, ?_⟩
          have : y ≠ x := fun e => hj (nodup_ix hN e1 (e ▸ hi))
          simp [this, e]
        · exact .inr ⟨k, c, e, z.sameBut hs (cne y c e)⟩
    · obtain ⟨w', z⟩ := I.cell y c e
      exact ⟨w', z.sameBut hs (cne y c e)⟩
    · obtain ⟨e, n, ne, nf, d⟩ := I.pin p hp
      exact ⟨(hs.2 p.1 ne).trans e, n, ne, nf, d⟩
  · have hfn : X.fn x = true := by
      rcases hf with z | z
      · exact z
      · rw [z] at hk; cases hk
    obtain ⟨c, hc⟩ := I.ok.has x (.inl hk)
    obtain ⟨w', z⟩ := I.cell x c hc
    refine wpAny_storeName_cell I.ok.kind hk hc z (fun h' hc' hs => ?_)
    obtain ⟨oc, hoc, hocd⟩ := id z
    refine h { s with heap := h' } ⟨I.ok, I.os, I.bare, ⟨fun b o e n hb hx => ?_, fun b o e n hb hx => ?_, I.base.free, fun b o e hx => ?_, I.base.tups, I.base.frzs, I.base.tbls⟩, ⟨m, hn.sameBut hs (Ne.symm (cne x c hc)), fun j y v' e1 e2 e3 => ?_⟩, fun y c' e => ?_, I.free, I.freeC, fun p hp => ?_, tracked ⟨oc, hoc, I.freeC x c hc⟩ hs, by simpa using I.len⟩ ⟨c, hs, .inr hc⟩
    · exact (hs.2 b (Nat.ne_of_lt (Nat.lt_of_lt_of_le (Heap.lt_size e) (I.ok.cab x c hfn hc)))).trans (I.base.keep b o e n hb hx)
    · obtain ⟨sl, e1⟩ := I.base.slot b o e n hb hx
      exact ⟨sl, (hs.2 b (Nat.ne_of_lt (Nat.lt_of_lt_of_le (Heap.lt_size e) (I.ok.cab x c hfn hc)))).trans e1⟩
    · obtain ⟨o', e1⟩ := I.base.there b o e hx
      exact ⟨o', (hs.2 b (Nat.ne_of_lt (Nat.lt_of_lt_of_le (Heap.lt_size e) (I.ok.cab x c hfn hc)))).trans e1⟩
    · by_cases hj : j = i
      · subst hj
        rw [hi] at e1; cases e1
        rw [List.getElem?_set_self hiσ] at e2
        cases e2
        exact ⟨u, r, .inr ⟨.inl hk, c, hc, hc'⟩⟩
      · rw [List.getElem?_set_ne (Ne.symm hj)] at e2
        obtain ⟨u', r', q⟩ := hl j y v' e1 e2 e3
        refine ⟨u', r', ?_⟩
        rcases q with q | ⟨k, c', e, z'⟩
        · exact .inl q
        · refine .inr ⟨k, c', e, z'.sameBut hs ?_⟩
          rintro rfl
          exact hj (nodup_ix hN e1 (I.ok.inj _ _ _ e hc ▸ hi))
    · by_cases hcc : c' = c
      · subst hcc; exact ⟨_, hc'⟩
      · obtain ⟨w2, z2⟩ := I.cell y c' e
        exact ⟨w2, z2.sameBut hs hcc⟩
    · obtain ⟨e, n, ne, nf, d⟩ := I.pin p hp
      refine ⟨(hs.2 p.1 ?_).trans e, n, ne, nf, d⟩
      intro q
      rw [q, hoc] at e
      have q' : oc = p.2 := Option.some.inj e
      exact d w' (by rw [← q']; exact hocd)
theorem store_ok {M : Model} {A : Around} {E : Value → Shared → Prop} {i : Nat} {x : Str} {v : V} {u : Value} {Q : Unit → Shared → Prop} (I : Inv X pins σ H s) (hN : X.N.Nodup) (hi : X.N[i]? = some x) (hx : Loc X.env.scope x) (r : RelV v u)
    (h : ∀ s', Inv X pins (σ.set i (some v)) H s' → Q () s') (hf : X.fn x = true ∨ X.env.scope.names.lookup x = some .local := by first | exact .inl rfl | exact .inr rfl | assumption) : wpAny M A (storeName X.env x u) Q E s :=
  store_ok2 I hN hi hx r (fun s' I' _ => h s' I') hf
theorem Inv.call' {s' : Shared} {ch : List Addr} (I : Inv X pins σ H s) (ho : s'.os = s.os) (u : Un (frs X.stack) ch H H' s.heap s'.heap) (hok : HOk X.prog X.w H' s'.heap) (hg : AllBare s'.gens)
    (hch : ∀ b ∈ ch, (b ∈ X.ex ∨ X.s₀.heap.objs.size ≤ b) ∧ b ≠ X.env.locals ∧ (∀ x c, X.env.cells.lookup x = some c → c ≠ b) ∧ ∀ p ∈ X.pn ++ pins, p.1 ≠ b) : Inv X pins σ H' s' := by
  obtain ⟨h', g', d', t', o'⟩ := s'
  have e : o' = s.os := ho
  subst e
  exact I.call (g' := g') (t' := t') (d' := d') u hok hg hch
end
noncomputable abbrev XK := Value → Option Addr → Hp → Prop
noncomputable abbrev St := List (Option V)
noncomputable abbrev VK := V → Hp → Prop
noncomputable abbrev TE := St → Hp → VK → Prop
noncomputable abbrev TT := St → Hp → (Bool → Hp → Prop) → Prop
noncomputable abbrev TA := St → Hp → (List V → Hp → Prop) → Prop
structure Ends where
  nx : St → Hp → Prop
  rt : VK
  bk : St → Hp → Prop := fun _ _ => False
  ct : St → Hp → Prop := fun _ _ => False
noncomputable abbrev TS := Ends → St → Hp → Prop
noncomputable def EP (X : Cx) (pins : List (Addr × Obj)) (σ : St) (Q : VK) (u : Value) (s' : Shared) : Prop := ∃ v H', Inv X pins σ H' s' ∧ RelV v u ∧ Q v H'
noncomputable def TP (X : Cx) (pins : List (Addr × Obj)) (σ : St) (Q : Bool → Hp → Prop) (b : Bool) (s' : Shared) : Prop := ∃ H', Inv X pins σ H' s' ∧ Q b H'
noncomputable def AP (X : Cx) (pins : List (Addr × Obj)) (σ : St) (Q : List V → Hp → Prop) (us : List Value) (s' : Shared) : Prop := ∃ vs H', Inv X pins σ H' s' ∧ Vals vs us ∧ Q vs H'
noncomputable def SP (X : Cx) (pins : List (Addr × Obj)) (D : Ends) (f : Flow) (s' : Shared) : Prop :=
  match f with
  | .next => ∃ σ' H', Inv X pins σ' H' s' ∧ D.nx σ' H'
  | .brk => ∃ σ' H', Inv X pins σ' H' s' ∧ D.bk σ' H'
  | .cont => ∃ σ' H', Inv X pins σ' H' s' ∧ D.ct σ' H'
  | .ret u => ∃ v σ' H', Inv X pins σ' H' s' ∧ RelV v u ∧ D.rt v H'
noncomputable def PE (X : Cx) (e : Expr) (t : TE) : Prop :=
  ∀ (pins : List (Addr × Obj)) (s : Shared) (σ : St) (H : Hp) (Q : VK), Inv X pins σ H s → t σ H Q → wpAny (model X.prog X.w) X.A (eval e X.env) (EP X pins σ Q) X.xe s
noncomputable def PT (X : Cx) (e : Expr) (t : TT) : Prop :=
  ∀ (pins : List (Addr × Obj)) (s : Shared) (σ : St) (H : Hp) (Q : Bool → Hp → Prop), Inv X pins σ H s → t σ H Q → wpAny (model X.prog X.w) X.A (isTrue e X.env (eval e X.env)) (TP X pins σ Q) X.xe s
noncomputable def PW (X : Cx) (e : Expr) (t : TT) : Prop :=
  ∀ (whole : Sem Value) (pins : List (Addr × Obj)) (s : Shared) (σ : St) (H : Hp) (Q : Bool → Hp → Prop), Inv X pins σ H s → t σ H Q → wpAny (model X.prog X.w) X.A (isTrue e X.env whole) (TP X pins σ Q) X.xe s
theorem PW.pt {X : Cx} {e : Expr} {t : TT} (h : PW X e t) : PT X e t := h _
noncomputable def PA (X : Cx) (es : List Expr) (t : TA) : Prop :=
  ∀ (pos : Pos) (pins : List (Addr × Obj)) (s : Shared) (σ : St) (H : Hp) (Q : List V → Hp → Prop), Inv X pins σ H s → t σ H Q → wpAny (model X.prog X.w) X.A (spliced (backTo pos (starEach es X.env))) (AP X pins σ Q) X.xe s
noncomputable def PS (X : Cx) (st : Stmt) (t : TS) : Prop :=
  ∀ (pins : List (Addr × Obj)) (s : Shared) (σ : St) (H : Hp) (D : Ends), Inv X pins σ H s → t D σ H → wpAny (model X.prog X.w) X.A (exec st X.env) (SP X pins D) X.xe s
noncomputable def PSs (X : Cx) (st : List Stmt) (t : TS) : Prop :=
  ∀ (pins : List (Addr × Obj)) (s : Shared) (σ : St) (H : Hp) (D : Ends), Inv X pins σ H s → t D σ H → wpAny (model X.prog X.w) X.A (execs st X.env) (SP X pins D) X.xe s
theorem thn {α : Type} {t : Sem α} {Q Q' : α → Shared → Prop} {M : Model} {A : Around} {E : Value → Shared → Prop} {s : Shared} (h : wpAny M A t Q E s) (hQ : ∀ a s, Q a s → Q' a s) : wpAny M A t Q' E s := wpAny_mono h hQ fun _ _ x => x
end L2
namespace L2
open PySem PySem.Spec PyProof.Rows
section
variable {X : Cx}
noncomputable def tVar (i : Nat) : TE := fun σ H Q => ∃ v, σ[i]? = some (some v) ∧ Q v H
noncomputable def tC (v : V) : TE := fun _ H Q => Q v H
theorem pe_var {i : Nat} {x : Str} {pos : Pos} (hN : X.N[i]? = some x) (hv : Vis X.env.scope x) (hd : (x == ("__debug__" : Str)) = false := by decide) (hcd : (x == ("__classdict__" : Str)) = false := by decide) : PE X (.Name x pos) (tVar i) := by
  intro pins s σ H Q I h
  obtain ⟨v, e, h⟩ := h
  obtain ⟨m, hn, hl⟩ := I.loc
  obtain ⟨u, r, l⟩ := hl i x v hN e hv
  have fin : EP X pins σ Q u s := ⟨v, H, I, r, h⟩
  rcases l with ⟨hk, hm⟩ | ⟨hk, c, hc, hcell⟩
  · exact wpAny_Name (wpAny_loadName_local I.ok.kind hk hn hm fin) hd
  · rcases hk with hk | hk
    · exact wpAny_Name (wpAny_loadName_cell I.ok.kind hk hc hcell fin) hd
    · exact wpAny_Name (wpAny_loadName_free I.ok.kind hk hc hcell fin hcd) hd
theorem pe_int {i j pos} : PE X (.Constant (.int i) j pos) (tC (.int i)) := fun _ _ _ H _ I h => wpAny_Constant_int ⟨.int i, H, I.tok _, ⟨_, rfl⟩, h⟩
theorem pe_bl {b j pos} : PE X (.Constant (.bool b) j pos) (tC (.bl b)) := fun _ _ _ H _ I h => Constant_bool ⟨.bl b, H, I, rfl, h⟩
theorem pe_non {j pos} : PE X (.Constant .none j pos) (tC .non) := fun _ _ _ H _ I h => Constant_none ⟨.non, H, I, rfl, h⟩
theorem pe_str {x j pos} : PE X (.Constant (.str x) j pos) (tC (.str x)) := fun _ _ _ H _ I h => Calls.Constant_str ⟨.str x, H, I.tok _, ⟨_, rfl⟩, h⟩
noncomputable def Gl (X : Cx) (x : Str) : Prop := X.env.kindOf x = some .globalImplicit
theorem ld_glob {E : Value → Shared → Prop} {pins : List (Addr × Obj)} {s : Shared} {σ : St} {H : Hp} {x : Str} {u : Value} {pos : Pos} {Q : Value → Shared → Prop} (I : Inv X pins σ H s) (hg : Gl X x) (hm : X.mg x = some u) (h : Q u s)
    (hd : (x == ("__debug__" : Str)) = false := by decide) : wpAny (model X.prog X.w) X.A (eval (.Name x pos) X.env) Q E s :=
  Calls.Name_function_global I.ok.kind hg (Calls.loadGlobal_global (by rw [I.ok.glob]; exact I.mod.glob.keeps I.bk) hm h) hd
theorem ld_blt {E : Value → Shared → Prop} {pins : List (Addr × Obj)} {s : Shared} {σ : St} {H : Hp} {x : Str} {u : Value} {pos : Pos} {Q : Value → Shared → Prop} (I : Inv X pins σ H s) (hg : Gl X x) (hm : X.mg x = none) (hv : bootBuiltins x = some u) (h : Q u s)
    (hn : x ≠ "__name__" := by decide) (hd : (x == ("__debug__" : Str)) = false := by decide) : wpAny (model X.prog X.w) X.A (eval (.Name x pos) X.env) Q E s := by
  obtain ⟨mb, h1, h2⟩ := I.mod.blt
  exact Calls.Name_function_global I.ok.kind hg (Calls.loadGlobal_builtin (by rw [I.ok.glob]; exact I.mod.glob.keeps I.bk) hm (by rw [I.ok.blt]; exact h1.keeps I.bk) ((h2 x hn).trans hv) h) hd
theorem pe_glob {x : Str} {v : V} {u : Value} {pos : Pos} (hg : Gl X x) (hm : X.mg x = some u) (r : RelV v u) (hd : (x == ("__debug__" : Str)) = false := by decide) : PE X (.Name x pos) (tC v) :=
  fun _ _ _ H _ I h => ld_glob I hg hm ⟨v, H, I, r, h⟩ hd
theorem pe_bltn {x : Str} {v : V} {u : Value} {pos : Pos} (hg : Gl X x) (hm : X.mg x = none) (hv : bootBuiltins x = some u) (r : RelV v u) (hn : x ≠ "__name__" := by decide) (hd : (x == ("__debug__" : Str)) = false := by decide) : PE X (.Name x pos) (tC v) :=
  fun _ _ _ H _ I h => ld_blt I hg hm hv ⟨v, H, I, r, h⟩ hn hd
variable {a b : Expr} {ta tb : TE} {pos : Pos}
noncomputable def tB (t : TE) : TT := fun σ H Q => t σ H fun x H1 => ∃ c, x = .bl c ∧ Q c H1
theorem pt_val {e : Expr} {t : TE} (h : PE X e t) (he : ∀ whole, isTrue e X.env whole = (do let v ← whole; standAt e.pos; holding [v] (truthy v)) := by intro _; rfl) : PT X e (tB t) := by
  intro pins s σ H Q I hw
  refine isTrue_plain (thn (h pins s σ H _ I hw) fun v s1 ⟨x, H1, I1, r1, q1⟩ => ?_) (he _)
  obtain ⟨d, rfl, q⟩ := q1
  cases r1
  exact wpAny_truthy_bool ⟨H1, I1, q⟩
variable {tA tB' : TT} {rest : List Expr}
noncomputable def tAnd (t u : TT) : TT := fun σ H Q => t σ H fun c H1 => if c = true then u σ H1 Q else Q false H1
noncomputable def tOr (t u : TT) : TT := fun σ H Q => t σ H fun c H1 => if c = true then Q true H1 else u σ H1 Q
noncomputable def tNot (t : TT) : TT := fun σ H Q => t σ H fun c H1 => Q (!c) H1
theorem pw_and1 (ha : PT X a tA) : PW X (.BoolOp .And [a] pos) tA := by
  intro wh pins s σ H Q I h
  refine isTrue_and (thn (ha pins s σ H Q I h) fun c s1 e => ?_)
  cases c with
  | true => exact isTrue_and_nil e
  | false => exact e
theorem pw_or1 (ha : PT X a tA) : PW X (.BoolOp .Or [a] pos) tA := by
  intro wh pins s σ H Q I h
  refine isTrue_or (thn (ha pins s σ H Q I h) fun c s1 e => ?_)
  cases c with
  | false => exact isTrue_or_nil e
  | true => exact e
theorem pw_and (ha : PT X a tA) (hb : PW X (.BoolOp .And (b :: rest) pos) tB') : PW X (.BoolOp .And (a :: b :: rest) pos) (tAnd tA tB') := by
  intro wh pins s σ H Q I h
  refine isTrue_and (thn (ha pins s σ H _ I h) fun c s1 ⟨H1, I1, q1⟩ => ?_)
  cases c with
  | true => exact hb wh pins s1 σ H1 Q I1 q1
  | false => exact ⟨H1, I1, q1⟩
theorem pw_or (ha : PT X a tA) (hb : PW X (.BoolOp .Or (b :: rest) pos) tB') : PW X (.BoolOp .Or (a :: b :: rest) pos) (tOr tA tB') := by
  intro wh pins s σ H Q I h
  refine isTrue_or (thn (ha pins s σ H _ I h) fun c s1 ⟨H1, I1, q1⟩ => ?_)
  cases c with
  | true => exact ⟨H1, I1, q1⟩
  | false => exact hb wh pins s1 σ H1 Q I1 q1
theorem pt_not (ha : PT X a tA) : PT X (.UnaryOp .Not a pos) (tNot tA) := by
  intro pins s σ H Q I h
  exact isTrue_not (ha pins s σ H (fun c H1 => Q (!c) H1) I h)
noncomputable def tAndV (ta tb : TE) : TE := fun σ H Q => ta σ H fun x H1 => ∃ c, x = .bl c ∧ if c = true then tb σ H1 Q else Q (.bl false) H1
noncomputable def tNotV (ta : TE) : TE := fun σ H Q => ta σ H fun x H1 => ∃ c, x = .bl c ∧ Q (.bl (!c)) H1
theorem pe_one {op} {t : TE} (h : PE X a t) : PE X (.BoolOp op [a] pos) t := fun pins s σ H Q I hw => BoolOp_one (h pins s σ H Q I hw)
theorem pe_and (ha : PE X a ta) (hb : PE X (.BoolOp .And (b :: rest) pos) tb) : PE X (.BoolOp .And (a :: b :: rest) pos) (tAndV ta tb) := by
  intro pins s σ H Q I h
  refine BoolOp_and (thn (ha pins s σ H _ I h) fun v s1 ⟨x, H1, I1, r1, q1⟩ => ?_)
  obtain ⟨c, rfl, q1⟩ := q1
  cases r1
  refine wpAny_truthy_bool ?_
  cases c with
  | true => exact hb pins s1 σ H1 Q I1 q1
  | false => exact ⟨.bl false, H1, I1, rfl, q1⟩
theorem pe_not (ha : PE X a ta) : PE X (.UnaryOp .Not a pos) (tNotV ta) := by
  intro pins s σ H Q I h
  refine UnaryOp_ (thn (ha pins s σ H _ I h) fun v s1 ⟨x, H1, I1, r1, q1⟩ => ?_)
  obtain ⟨c, rfl, q1⟩ := q1
  cases r1
  exact not_of (wpAny_truthy_bool ⟨.bl (!c), H1, I1, rfl, q1⟩)
noncomputable def tIf (t : TT) (ta tb : TE) : TE := fun σ H Q => t σ H fun c H1 => if c = true then ta σ H1 Q else tb σ H1 Q
theorem pe_ifExp {c : Expr} (hc : PT X c tA) (ha : PE X a ta) (hb : PE X b tb) : PE X (.IfExp c a b pos) (tIf tA ta tb) := by
  intro pins s σ H Q I h
  refine wpAny_IfExp (thn (hc pins s σ H _ I h) fun d s1 ⟨H1, I1, q1⟩ => ?_)
  cases d with
  | true => exact ha pins s1 σ H1 Q I1 q1
  | false => exact hb pins s1 σ H1 Q I1 q1
end
end L2
namespace L2
open PySem PySem.Spec PyProof.Rows
noncomputable def SqL (K : PySem.W.Frag) (H : Hp) (a : Addr) (xs : List V) : Prop :=
  Rd H a (.lst xs) ∨
    ∃ (o : Obj) (its : Array Value) (n : Nat), K.lookup a = some o ∧ o.cls = .type "list" ∧ o.dict = none ∧ o.data = .seq its n ∧ its.size ≤ sizeLine ∧ Vals xs its.toList
noncomputable def SqT (K : PySem.W.Frag) (H : Hp) (a : Addr) (xs : List V) : Prop :=
  Rd H a (.tup xs) ∨
    ∃ (o : Obj) (its : Array Value) (n : Nat), K.lookup a = some o ∧ o.cls = .type "tuple" ∧ o.data = .seq its n ∧ its.size ≤ sizeLine ∧ Vals xs its.toList
noncomputable def absV : Value → Option V
  | .none => some .non
  | .bool b => some (.bl b)
  | .int i _ => some (.int i)
  | .str x _ => some (.str x)
  | .bytes b _ => some (.byt b)
  | .float b _ => some (.flt b)
  | .ref a => some (.ref a)
  | .type n => some (.ty n)
  | _ => none
theorem RelV.abs {x : V} {u : Value} (r : RelV x u) : absV u = some x := by
  cases x with
  | non => cases r; rfl
  | bl _ => cases r; rfl
  | int _ => obtain ⟨t, rfl⟩ := r; rfl
  | str _ => obtain ⟨t, rfl⟩ := r; rfl
  | byt _ => obtain ⟨t, rfl⟩ := r; rfl
  | flt _ => obtain ⟨t, rfl⟩ := r; rfl
  | ref _ => cases r; rfl
  | ty _ => cases r; rfl
theorem RelV.inj {x y : V} {u : Value} (r : RelV x u) (q : RelV y u) : x = y := Option.some.inj (r.abs.symm.trans q.abs)
theorem Vals.inj : ∀ {xs ys : List V} {us : List Value}, Vals xs us → Vals ys us → xs = ys
  | _, _, _, .nil, .nil => rfl
  | _, _, _, .cons r t, .cons r' t' => by rw [r.inj r', Vals.inj t t']
section
variable {X : Cx} {pins : List (Addr × Obj)} {σ : St} {H : Hp} {s : Shared} {a : Addr} {xs ys : List V}
theorem SqL.of {K : PySem.W.Frag} (h : H a = some (.lst xs)) : SqL K H a xs := .inl (.inl h)
theorem SqT.of {K : PySem.W.Frag} (h : H a = some (.tup xs)) : SqT K H a xs := .inl (.inl h)
theorem Inv.list (I : Inv X pins σ H s) (h : SqL X.K H a xs) : ∃ its : List Value, Vals xs its ∧ PlainL s.heap a its.toArray ∧ xs.length ≤ sizeLine := by
  rcases h with h | ⟨o, its, n, hk, hc, hd, hs, hz, r⟩
  · obtain ⟨z, its, n, r, e⟩ := h.ok I.hok
    exact ⟨its, r, ⟨_, n, e, rfl, rfl, rfl⟩, z⟩
  · refine ⟨its.toList, r, ⟨o, n, I.kIn a o hk, hc, hd, by simpa using hs⟩, ?_⟩
    have e := r.length
    simp only [Array.length_toList] at e
    omega
theorem Inv.tuple (I : Inv X pins σ H s) (h : SqT X.K H a xs) : ∃ its : List Value, Vals xs its ∧ IsTup s.heap a its.toArray ∧ xs.length ≤ sizeLine := by
  rcases h with h | ⟨o, its, n, hk, hc, hs, hz, r⟩
  · obtain ⟨z, its, r, p⟩ := h.ok I.hok
    exact ⟨its, r, p, z⟩
  · refine ⟨its.toList, r, ⟨o, I.kIn a o hk, hc, n, by simpa using hs⟩, ?_⟩
    have e := r.length
    simp only [Array.length_toList] at e
    omega
theorem Inv.list_inj (I : Inv X pins σ H s) (h : SqL X.K H a xs) (h' : SqL X.K H a ys) : xs = ys := by
  obtain ⟨its, r, ⟨o, n, e, _, _, d⟩, _⟩ := I.list h
  obtain ⟨its', r', ⟨o', n', e', _, _, d'⟩, _⟩ := I.list h'
  rw [e] at e'; cases e'
  rw [d] at d'
  injection d' with d1 _
  have : its = its' := by simpa using congrArg Array.toList d1
  subst this
  exact r.inj r'
theorem Inv.tuple_inj (I : Inv X pins σ H s) (h : SqT X.K H a xs) (h' : SqT X.K H a ys) : xs = ys := by
  obtain ⟨its, r, ⟨o, e, _, n, d⟩, _⟩ := I.tuple h
  obtain ⟨its', r', ⟨o', e', _, n', d'⟩, _⟩ := I.tuple h'
  rw [e] at e'; cases e'
  rw [d] at d'
  injection d' with d1 _
  have : its = its' := by simpa using congrArg Array.toList d1
  subst this
  exact r.inj r'
end
noncomputable abbrev Cx.wish (X : Cx) (E : Value → Shared → Prop) : Cx := { X with xe := E }
noncomputable abbrev Cx.nox (X : Cx) : Cx := X.wish fun _ _ => False
theorem Cx.Ok.wish {X : Cx} (ok : X.Ok) (E : Value → Shared → Prop) : (X.wish E).Ok :=
  ⟨ok.mod, ok.kind, ok.glob, ok.blt, ok.above, ok.inj, ok.has, ok.cab, ok.hd, ok.frames, ok.stk, ok.exf, ok.bs, ok.bsz, ok.noex, ok.exfs, ok.funs, ok.frf⟩
theorem Cx.Ok.unwish {X : Cx} {E : Value → Shared → Prop} (ok : (X.wish E).Ok) : X.Ok :=
  ⟨ok.mod, ok.kind, ok.glob, ok.blt, ok.above, ok.inj, ok.has, ok.cab, ok.hd, ok.frames, ok.stk, ok.exf, ok.bs, ok.bsz, ok.noex, ok.exfs, ok.funs, ok.frf⟩
section
variable {X : Cx} {pins : List (Addr × Obj)} {σ : St} {H : Hp} {s : Shared} {E : Value → Shared → Prop}
theorem Inv.wish (I : Inv X pins σ H s) (E : Value → Shared → Prop) : Inv (X.wish E) pins σ H s := ⟨I.ok.wish E, I.os, I.bare, I.base, I.loc, I.cell, I.free, I.freeC, I.pin, I.hok, I.len⟩
theorem Inv.unwish (I : Inv (X.wish E) pins σ H s) : Inv X pins σ H s := ⟨I.ok.unwish, I.os, I.bare, I.base, I.loc, I.cell, I.free, I.freeC, I.pin, I.hok, I.len⟩
theorem SP.unwish {D : Ends} {f : Flow} {s' : Shared} (h : SP (X.wish E) pins D f s') : SP X pins D f s' := by
  cases f with
  | next => obtain ⟨σ', H', I, q⟩ := h; exact ⟨σ', H', I.unwish, q⟩
  | brk => obtain ⟨σ', H', I, q⟩ := h; exact ⟨σ', H', I.unwish, q⟩
  | cont => obtain ⟨σ', H', I, q⟩ := h; exact ⟨σ', H', I.unwish, q⟩
  | ret u => obtain ⟨v, σ', H', I, r, q⟩ := h; exact ⟨v, σ', H', I.unwish, r, q⟩
theorem PSs.nox {st : List Stmt} {t : TS} (h : PSs X.nox st t) : PSs X st t := fun pins s σ H D I hw =>
  wpAny_mono (h pins s σ H D (I.wish _) hw) (fun _ _ q => q.unwish) fun _ _ z => False.elim z
end
section
variable {X : Cx} {st : Stmt} {rest : List Stmt} {t u : TS} {e : Expr} {te : TE} {pos : Pos}
noncomputable def tNext : TS := fun D σ H => D.nx σ H
noncomputable def tSeq (t u : TS) : TS := fun D σ H => t { D with nx := u D } σ H
theorem pss_nil : PSs X [] tNext := fun _ _ σ H _ I h => wpAny_execs_nil ⟨σ, H, I, h⟩
theorem pss_cons (h1 : PS X st t) (h2 : PSs X rest u) : PSs X (st :: rest) (tSeq t u) := by
  intro pins s σ H D I h
  refine wpAny_execs_cons (thn (h1 pins s σ H { D with nx := u D } I h) fun f s1 q => ?_)
  cases f with
  | next =>
    obtain ⟨σ', H', I', q⟩ := q
    exact h2 pins s1 σ' H' D I' q
  | ret v => exact q
  | brk => exact q
  | cont => exact q
theorem pss_one (h1 : PS X st t) : PSs X [st] t := by
  intro pins s σ H D I h
  refine wpAny_execs_cons (thn (h1 pins s σ H D I h) fun f s1 q => ?_)
  cases f with
  | next => exact wpAny_execs_nil q
  | ret v => exact q
  | brk => exact q
  | cont => exact q
theorem Inv.quiet {pins : List (Addr × Obj)} {σ : St} {H : Hp} {s : Shared} (I : Inv X pins σ H s) : interactive X.env = false := by simp [interactive, I.ok.kind]
noncomputable def tDrop (te : TE) : TS := fun D σ H => te σ H fun _ H1 => D.nx σ H1
theorem ps_expr (he : PE X e te) (hs : swapsWith e none pos.line X.env = pure false := by rfl) : PS X (.Expr e pos) (tDrop te) := by
  intro pins s σ H D I h
  exact wpAny_Expr_any (thn (he pins s σ H _ I h) fun v s1 ⟨x, H1, I1, r1, q1⟩ => ⟨σ, H1, I1, q1⟩) I.quiet hs
noncomputable def tRet (te : TE) : TS := fun D σ H => te σ H D.rt
theorem ps_ret (he : PE X e te) : PS X (.Return (some e) pos) (tRet te) := by
  intro pins s σ H D I h
  exact wpAny_Return_some (thn (he pins s σ H _ I h) fun v s1 ⟨x, H1, I1, r1, q1⟩ => ⟨x, σ, H1, I1, r1, q1⟩)
noncomputable def tIfS (c : TT) (t u : TS) : TS := fun D σ H => c σ H fun b H1 => if b = true then t D σ H1 else u D σ H1
theorem ps_if {c : Expr} {a b : List Stmt} {tc : TT} (hc : PT X c tc) (ha : PSs X a t) (hb : PSs X b u) : PS X (.If c a b pos) (tIfS tc t u) := by
  intro pins s σ H D I h
  refine wpAny_If (thn (hc pins s σ H _ I h) fun d s1 ⟨H1, I1, q1⟩ => ?_)
  cases d with
  | true => exact ha pins s1 σ H1 D I1 q1
  | false => exact hb pins s1 σ H1 D I1 q1
noncomputable def tNever : TS := fun _ _ _ => False
theorem ps_never : PS X st tNever := fun _ _ _ _ _ _ h => h.elim
end
noncomputable abbrev TG := V → St → Hp → (St → Hp → Prop) → Prop
noncomputable abbrev TGs := List V → St → Hp → (St → Hp → Prop) → Prop
noncomputable def PG (X : Cx) (target : Expr) (t : TG) : Prop :=
  ∀ (pins : List (Addr × Obj)) (s : Shared) (σ : St) (H : Hp) (v : V) (u : Value) (Q : St → Hp → Prop), Inv X pins σ H s → RelV v u → t v σ H Q →
    wpAny (model X.prog X.w) X.A (assign target X.env u) (fun _ s' => ∃ σ' H', Inv X pins σ' H' s' ∧ Q σ' H') X.xe s
noncomputable def PGs (X : Cx) (ts : List Expr) (t : TGs) : Prop :=
  ∀ (pins : List (Addr × Obj)) (s : Shared) (σ : St) (H : Hp) (vs : List V) (us : List Value) (Q : St → Hp → Prop), Inv X pins σ H s → Vals vs us → t vs σ H Q →
    wpAny (model X.prog X.w) X.A (assignInOrder ((assignEach ts X.env).map (·.2)) us) (fun _ s' => ∃ σ' H', Inv X pins σ' H' s' ∧ Q σ' H') X.xe s
noncomputable abbrev TIp := V → V → Hp → VK → Prop
noncomputable def PIp (X : Cx) (op : Operator) (t : TIp) : Prop :=
  ∀ (pins : List (Addr × Obj)) (s : Shared) (σ : St) (H : Hp) (x y : V) (v u : Value) (Q : VK), Inv X pins σ H s → RelV x v → RelV y u → t x y H Q →
    wpAny (model X.prog X.w) X.A (inplaceOp op v u) (EP X pins σ Q) X.xe s
section
variable {X : Cx} {pos : Pos}
noncomputable def gName (i : Nat) : TG := fun v σ H Q => Q (σ.set i (some v)) H
theorem pg_name {i : Nat} {x : Str} (hN : X.N.Nodup) (hi : X.N[i]? = some x) (hx : Loc X.env.scope x) (hf : X.fn x = true ∨ X.env.scope.names.lookup x = some .local := by first | exact .inl rfl | exact .inr rfl | assumption) : PG X (.Name x pos) (gName i) := by
  intro pins s σ H v u Q I r h
  exact wpAny_assign_Name (store_ok I hN hi hx r (fun s' I' => ⟨_, H, I', h⟩) hf)
noncomputable def gNil : TGs := fun vs σ H Q => vs = [] ∧ Q σ H
noncomputable def gCons (t : TG) (u : TGs) : TGs := fun vs σ H Q => ∃ v r, vs = v :: r ∧ t v σ H fun σ' H' => u r σ' H' Q
theorem pgs_nil : PGs X [] gNil := by
  intro pins s σ H vs us Q I r h
  obtain ⟨e, h⟩ := h
  subst e
  cases r
  exact assignInOrder_nil ⟨σ, H, I, h⟩
theorem pgs_cons {e : Expr} {es : List Expr} {t : TG} {u : TGs} (h1 : PG X e t) (h2 : PGs X es u)
    (hs : (assignEach (e :: es) X.env).map (·.2) = assign e X.env :: (assignEach es X.env).map (·.2) := by rfl) : PGs X (e :: es) (gCons t u) := by
  intro pins s σ H vs us Q I r h
  obtain ⟨v, vr, e1, h⟩ := h
  subst e1
  cases r with
  | cons r rr =>
    rw [hs]
    refine assignInOrder_cons (thn (h1 pins s σ H _ _ _ I r h) fun _ s1 ⟨σ1, H1, I1, q1⟩ => ?_)
    exact h2 pins s1 σ1 H1 _ _ Q I1 rr q1
noncomputable def gTup (K : PySem.W.Frag) (n : Nat) (t : TGs) : TG := fun v σ H Q => ∃ a xs, v = .ref a ∧ SqT K H a xs ∧ xs.length = n ∧ t xs σ H Q
theorem pg_tup {es : List Expr} {k : Nat} {t : TGs} {n : Nat} (hc : X.calm = true) (h : PGs X es t)
    (hn : (assignEach es X.env).length = n := by rfl) (hst : (assignEach es X.env).findIdx? (·.1) = none := by rfl) : PG X (.Tuple es k pos) (gTup X.K n t) := by
  intro pins s σ H v u Q I r hw
  obtain ⟨a, xs, e1, hq, hl, hw⟩ := hw
  subst e1
  cases r
  obtain ⟨its, rv, ht, hz⟩ := I.tuple hq
  refine assign_Tuple_tuple (I.ok.hd hc) ht (by simp [hn, ← hl, rv.length]) hst fun h' hx => ?_
  have I1 : Inv X pins σ H { s with heap := h' } := I.kept (t' := s.toks) fun b o e => hx b o (Nat.ne_of_lt (Heap.lt_size e)) e
  exact h pins _ σ H xs _ Q I1 (by simpa using rv) hw
noncomputable def tAsg (te : TE) (g : TG) : TS := fun D σ H => te σ H fun x H1 => g x σ H1 D.nx
theorem ps_set {i : Nat} {x : Str} {e : Expr} {te : TE} {pos' : Pos} (hN : X.N.Nodup) (hi : X.N[i]? = some x) (hx : Loc X.env.scope x) (he : PE X e te) (hs : swapsWith e (some (.Name x pos')) pos.line X.env = pure false := by rfl) (hf : X.fn x = true ∨ X.env.scope.names.lookup x = some .local := by first | exact .inl rfl | exact .inr rfl | assumption) :
    PS X (.Assign [.Name x pos'] e pos) (tAsg te (gName i)) := by
  intro pins s σ H D I h
  refine wpAny_Assign_Name (thn (he pins s σ H _ I h) fun v s1 ⟨y, H1, I1, r1, q1⟩ => ?_) hs
  exact store_ok I1 hN hi hx r1 (fun s2 I2 => ⟨_, H1, I2, q1⟩) hf
noncomputable def tPar (i j : Nat) (ta : TA) : TS := fun D σ H => ta σ H fun vs H1 => ∃ v w, vs = [v, w] ∧ D.nx ((σ.set i (some v)).set j (some w)) H1
theorem ps_par {i j : Nat} {x y : Str} {a b : Expr} {ta : TA} {px py pt : Pos} {kt k2 pt2} (hc : X.calm = true) (hN : X.N.Nodup) (hi : X.N[i]? = some x) (hj : X.N[j]? = some y) (hij : i ≠ j)
    (hx : X.env.scope.names.lookup x = some .local) (hy : X.env.scope.names.lookup y = some .local) (ha : PA X [a, b] ta)
    (hw : swappedStores [.Tuple [.Name x px, .Name y py] kt pt] (.Tuple [a, b] k2 pt2) X.env = pure (some [x, y]))
    (hs : swapsWithSole [.Tuple [.Name x px, .Name y py] kt pt] (.Tuple [a, b] k2 pt2) pos.line X.env = pure false := by rfl) :
    PS X (.Assign [.Tuple [.Name x px, .Name y py] kt pt] (.Tuple [a, b] k2 pt2) pos) (tPar i j ta) := by
  intro pins s σ H D I h
  rw [exec_Assign_arm]
  refine wpAny_bind (wpAny_standAt ?_)
  rw [hs]
  refine wpAny_bind (wpAny_pure ?_)
  rw [if_neg (by decide)]
  refine wpAny_bind (Tuple_ (thn (ha _ pins s σ H _ I h) fun us s1 ⟨vs, H1, I1, r1, q1⟩ => ?_))
  obtain ⟨v, w, e1, q1⟩ := q1
  subst e1
  obtain ⟨u1, u2, rfl, rv, rw'⟩ : ∃ u1 u2, us = [u1, u2] ∧ RelV v u1 ∧ RelV w u2 := by
    cases r1 with
    | cons p q =>
      cases q with
      | cons p' q' =>
        cases q'
        exact ⟨_, _, rfl, p, p'⟩
  refine wpAny_newObj_type ?_ (by show 2 ≤ sizeLine; decide)
  have I2 : Inv X pins σ H1 { s1 with heap := s1.heap.push { cls := .type "tuple", data := .seq [u1, u2].toArray } } := I1.kept (t' := s1.toks) fun b o e => Heap.get?_push_of_some _ e
  rw [hw]
  refine wpAny_bind (wpAny_pure ?_)
  show wpAny (model X.prog X.w) X.A (do rule "assign.swapped-stores"; let items ← unpackItems (.ref s1.heap.objs.size) 2 none; assignInOrder [fun v => bindName X.env y v, fun v => bindName X.env x v] items.reverse; pure Flow.next) _ _ _
  refine wpAny_bind (wpAny_rule (wpAny_bind (unpackItems_tuple (items := #[u1, u2]) (I.ok.hd hc) (IsTup.new s1.heap _) fun h' hx' => ?_)))
  have I3 := I2.kept (h' := h') (t' := s1.toks) fun b o e => hx' b o (Nat.ne_of_lt (Heap.lt_size e)) e
  show wpAny _ _ (assignInOrder [fun v => bindName X.env y v, fun v => bindName X.env x v] [u2, u1] >>= fun _ => pure Flow.next) _ _ _
  refine wpAny_bind (assignInOrder_cons (wpAny_bindName (store_ok I3 hN hj (.inl hy) rw' (fun s2 I4 => ?_) (.inr hy))))
  refine assignInOrder_cons (wpAny_bindName (store_ok I4 hN hi (.inl hx) rv (fun s3 I5 => assignInOrder_nil (wpAny_pure ?_)) (.inr hx)))
  rw [List.set_comm _ _ (Ne.symm hij)] at I5
  exact ⟨_, H1, I5, q1⟩
noncomputable def tAug (i : Nat) (te : TE) (ti : TIp) : TS := fun D σ H => ∃ x, σ[i]? = some (some x) ∧ te σ H fun y H1 => ti x y H1 fun z H2 => D.nx (σ.set i (some z)) H2
theorem ps_aug {i : Nat} {x : Str} {e : Expr} {te : TE} {op : Operator} {ti : TIp} {pos' : Pos} (hN : X.N.Nodup) (hi : X.N[i]? = some x) (hx : Loc X.env.scope x) (he : PE X e te) (ho : PIp X op ti) (hf : X.fn x = true ∨ X.env.scope.names.lookup x = some .local := by first | exact .inl rfl | exact .inr rfl | assumption) :
    PS X (.AugAssign (.Name x pos') op e pos) (tAug i te ti) := by
  intro pins s σ H D I h
  obtain ⟨v, e1, h⟩ := h
  obtain ⟨m, hn, hl⟩ := I.loc
  have vis : Vis X.env.scope x := by rcases hx with k | k; exact .inl k; exact .inr (.inl k)
  obtain ⟨u, r, l⟩ := hl i x v hi e1 vis
  refine wpAny_AugAssign_Name ?_
  have go : wpAny (model X.prog X.w) X.A (eval e X.env) (fun w s₂ => wpAny (model X.prog X.w) X.A (inplaceOp op u w) (fun r s₃ => wpAny (model X.prog X.w) X.A (storeName X.env x r) (fun _ => SP X pins D .next) X.xe s₃) X.xe s₂) X.xe s := by
    refine thn (he pins s σ H _ I h) fun w s1 ⟨y, H1, I1, r1, q1⟩ => ?_
    refine thn (ho pins s1 σ H1 v y u w _ I1 r r1 q1) fun z s2 ⟨zv, H2, I2, r2, q2⟩ => ?_
    exact store_ok I2 hN hi hx r2 (fun s3 I3 => ⟨_, H2, I3, q2⟩) hf
  rcases l with ⟨hk, hm⟩ | ⟨hk, c, hc, hcell⟩
  · exact wpAny_loadName_local I.ok.kind hk hn hm go
  · rcases hk with hk | hk
    · exact wpAny_loadName_cell I.ok.kind hk hc hcell go
    · rcases hx with k | k
      · have : X.env.scope.names.lookup x = some .free := hk
        rw [k] at this; cases this
      · have : X.env.scope.names.lookup x = some .free := hk
        rw [k] at this; cases this
noncomputable def ipI (f : Int → Int → Int) : TIp := fun x y H Q => ∃ i j, x = .int i ∧ y = .int j ∧ Q (.int (f i j)) H
theorem ip_add : PIp X .Add (ipI fun i j => i + j) := by
  intro pins s σ H x y v u Q I r1 r2 h
  obtain ⟨i, j, e1, e2, q⟩ := h
  subst e1; subst e2
  obtain ⟨t, rfl⟩ := r1
  obtain ⟨t', rfl⟩ := r2
  exact iadd_int ⟨.int _, H, I.tok _, ⟨_, rfl⟩, q⟩
end
section
variable {X : Cx} {pos : Pos}
noncomputable def tWhile (c : TT) (tb : TS) : TS := fun D σ H => ∃ W : Nat → St → Hp → Prop, (∃ m, W m σ H) ∧ ∀ m σ H, W m σ H →
  c σ H fun b H1 => if b = true then ∃ N : St → Hp → Prop, (∀ σ' H', N σ' H' → ∃ m', m' < m ∧ W m' σ' H') ∧ tb { D with nx := N, ct := N, bk := D.nx } σ H1 else D.nx σ H1
theorem ps_while {c : Expr} {body : List Stmt} {tc : TT} {tb : TS} (hp : PassesOwn (model X.prog X.w) X.A X.env X.xe) (hc : PT X c tc) (hb : PSs X body tb) : PS X (.While c body [] pos) (tWhile tc tb) := by
  intro pins s σ H D I h
  obtain ⟨W, ⟨m0, w0⟩, turn⟩ := h
  refine wpAny_While (codeAny_whileLoop (fun n s' => ∃ σ' H', Inv X pins σ' H' s' ∧ W n σ' H') ?_ m0 ⟨σ, H, I, w0⟩)
  rintro n s1 ⟨σ1, H1, I1, w1⟩
  refine wpAny_passesOwn hp (thn (hc pins s1 σ1 H1 _ I1 (turn n σ1 H1 w1)) fun b s2 ⟨H2, I2, q2⟩ => ?_)
  cases b with
  | true =>
    obtain ⟨N, hN, q2⟩ := q2
    rw [if_pos rfl]
    refine wpAny_passesOwn hp (thn (hb pins s2 σ1 H2 _ I2 q2) fun f s3 q3 => ?_)
    cases f with
    | next =>
      obtain ⟨σ3, H3, I3, n3⟩ := q3
      obtain ⟨m', hm, w3⟩ := hN σ3 H3 n3
      exact ⟨m', hm, σ3, H3, I3, w3⟩
    | cont =>
      obtain ⟨σ3, H3, I3, n3⟩ := q3
      obtain ⟨m', hm, w3⟩ := hN σ3 H3 n3
      exact ⟨m', hm, σ3, H3, I3, w3⟩
    | brk => exact q3
    | ret v => exact q3
  | false =>
    rw [if_neg Bool.false_ne_true]
    exact wpAny_execs_nil ⟨σ1, H2, I2, q2⟩
end
structure It where
  go : Nat → Hp → Prop
  yld : Nat → Hp → V → Hp → Prop
  stop : Nat → Hp → Prop
noncomputable def FpOk (X : Cx) (pins : List (Addr × Obj)) (H : Hp) (b : Addr) : Prop :=
  H b = none ∧ b ≠ X.env.locals ∧ b ∉ X.fs ∧ (b ∈ X.ex ∨ X.s₀.heap.objs.size ≤ b) ∧ (∀ x c, X.env.cells.lookup x = some c → c ≠ b) ∧ ∀ p ∈ X.pn ++ pins, p.1 ≠ b
theorem Inv.fpOk {X : Cx} {pins : List (Addr × Obj)} {σ : St} {H H' : Hp} {s : Shared} {b : Addr} (I : Inv X pins σ H s) (hb : s.heap.objs.size ≤ b) (hn : H' b = none) : FpOk X pins H' b := by
  refine ⟨hn, Nat.ne_of_gt (Nat.lt_of_lt_of_le I.lt hb), I.nofs hb, .inr (Nat.le_trans I.sz hb), fun x c e z => ?_, fun p hp z => ?_⟩
  · obtain ⟨v, q⟩ := I.cell x c e
    exact absurd (Nat.lt_of_lt_of_le q.lt (by rw [z]; exact hb)) (Nat.lt_irrefl _)
  · exact absurd (Nat.lt_of_lt_of_le (Heap.lt_size (I.pin p hp).1) (by rw [z]; exact hb)) (Nat.lt_irrefl _)
structure Turn (P : Program) (w : World) (K : PySem.W.Frag) (tg : Expr) (J : It) (fp : List Addr) (it : Addr) (tn : Nat → Heap → Prop) : Prop where
  mem : it ∈ fp
  obj : ∀ i h, tn i h → ∀ b ∈ fp, ∃ o, h.get? b = some o ∧ ∀ v, o.data ≠ .cell v
  keep : ∀ i h h', tn i h → (∀ b ∈ fp, ∀ o, h.get? b = some o → h'.get? b = some o) → tn i h'
  item : ∀ (X : Cx), X.prog = P → X.w = w → X.K = K → X.calm = true → ∀ (i : Nat) (pins : List (Addr × Obj)) (s : Shared) (σ : St) (H : Hp) (E : Value → Shared → Prop), Inv X pins σ H s → (∀ b ∈ fp, FpOk X pins H b) → tn i s.heap → J.go i H →
    wpAny (model P w) X.A (pyNext (.ref it)) (fun r s1 => ∃ u, r = some u ∧
      wpAny (model P w) X.A (letOwnedTupleGo tg (.ref it) u) (fun _ s2 => ∃ x H', Inv X pins σ H' s2 ∧ RelV x u ∧ J.yld i H x H' ∧ tn (i + 1) s2.heap ∧ ∀ b ∈ fp, H' b = none) E s1) E s
  done : ∀ (X : Cx), X.prog = P → X.w = w → X.K = K → X.calm = true → ∀ (i : Nat) (pins : List (Addr × Obj)) (s : Shared) (σ : St) (H : Hp) (E : Value → Shared → Prop), Inv X pins σ H s → (∀ b ∈ fp, FpOk X pins H b) → tn i s.heap → J.stop i H →
    wpAny (model P w) X.A (pyNext (.ref it)) (fun r s1 => r = none ∧ Inv X pins σ H s1) E s
  self : ∀ (A : Around) (i : Nat) (s : Shared) (Q : Value → Shared → Prop) (E : Value → Shared → Prop), tn i s.heap → Q (.ref it) s → wpAny (model P w) A (pyIter (.ref it)) Q E s
noncomputable abbrev TI := St → Hp → (It → Hp → Prop) → Prop
noncomputable def PIE (X : Cx) (pins : List (Addr × Obj)) (σ : St) (tg : Expr) (R : It → Hp → Prop) (itv : Value) (s2 : Shared) : Prop :=
  ∃ (it : Addr) (fp : List Addr) (tn : Nat → Heap → Prop) (J : It) (H' : Hp), itv = .ref it ∧ Inv X pins σ H' s2 ∧ Turn X.prog X.w X.K tg J fp it tn ∧ tn 0 s2.heap ∧ (∀ b ∈ fp, FpOk X pins H' b) ∧ R J H'
noncomputable def PI (X : Cx) (tg iter : Expr) (wi : TI) : Prop :=
  ∀ (pins : List (Addr × Obj)) (s : Shared) (σ : St) (H : Hp) (R : It → Hp → Prop), Inv X pins σ H s → wi σ H R →
    wpAny (model X.prog X.w) X.A (eval iter X.env) (fun v s1 => wpAny (model X.prog X.w) X.A (pyIter v) (PIE X pins σ tg R) X.xe s1) X.xe s
theorem go_of {M : Model} {A : Around} {E : Value → Shared → Prop} {s : Shared} {tg : Expr} {it : Addr} {u : Value} {o : Obj} {n : String} {vs : Array Value} {Q : Unit → Shared → Prop} (ho : s.heap.get? it = some o) (hc : o.cls = .type n) (hd : o.data = .fields vs)
    (hn : ["enumerate", "zip", "dict_itemiterator", "dict_reverseitemiterator", "odict_iterator", "itertools.zip_longest", "itertools.pairwise"].contains n = false) (hQ : Q () s) : wpAny M A (letOwnedTupleGo tg (.ref it) u) Q E s := by
  unfold letOwnedTupleGo
  cases tg <;> first
    | exact wpAny_pure hQ
    | (cases u <;> first
        | exact wpAny_pure hQ
        | (refine wpAny_bind (wpAny_load ho ?_)
           rw [hc, hd]
           show wpAny M A (if (["enumerate", "zip", "dict_itemiterator", "dict_reverseitemiterator", "odict_iterator", "itertools.zip_longest", "itertools.pairwise"].contains n && vs[0]? == some (rawInt _)) = true then _ else _) Q E s
           rw [if_neg (by intro h; rw [hn, Bool.false_and] at h; cases h)]
           exact wpAny_pure hQ))
noncomputable def Itl (K : PySem.W.Frag) (a : Addr) : It :=
  ⟨fun i H => ∃ xs x, SqL K H a xs ∧ xs[i]? = some x, fun i H x H' => H' = H ∧ ∀ xs, SqL K H a xs → xs[i]? = some x, fun i H => ∃ xs, SqL K H a xs ∧ xs.length ≤ i⟩
noncomputable def Itt (K : PySem.W.Frag) (a : Addr) : It :=
  ⟨fun i H => ∃ xs x, SqT K H a xs ∧ xs[i]? = some x, fun i H x H' => H' = H ∧ ∀ xs, SqT K H a xs → xs[i]? = some x, fun i H => ∃ xs, SqT K H a xs ∧ xs.length ≤ i⟩
noncomputable def Itr (lo : Int) (n : Nat) : It := ⟨fun i _ => i < n, fun i H x H' => H' = H ∧ x = .int (lo + i), fun i _ => n ≤ i⟩
theorem turn_list {P : Program} {w : World} {K : PySem.W.Frag} {tg : Expr} (a it : Addr) : Turn P w K tg (Itl K a) [it] it (fun i h => h.IsListIter it a i) where
  mem := by simp
  obj := fun i h st b hb => by
    have e : b = it := by simpa using hb
    subst e
    obtain ⟨o, e, c, d⟩ := st
    exact ⟨o, e, fun v z => by rw [d] at z; cases z⟩
  keep := fun i h h' st k => st.at fun o e => k it (by simp) o e
  item := by
    intro X hP hw hK hc i pins s σ H E I hf st hg
    subst hP hw hK
    obtain ⟨xs, x, hq, hx⟩ := hg
    obtain ⟨its, rv, p, hz⟩ := I.list hq
    obtain ⟨u, hu, ru⟩ := rv.get hx
    obtain ⟨f0, f1, f2, f3, f4, f5⟩ := hf it (by simp)
    refine wpAny_pyNext_list_item st p.isList (x := u) (by simpa using hu) fun h' st' sb => ?_
    have I1 : Inv X pins σ H { s with heap := h' } := I.turned (t' := s.toks) (fun b o hb e => (sb.2 b hb).trans e) f0 f1 f3 f4 f5
    obtain ⟨o, e, c, d⟩ := id st'
    exact ⟨u, rfl, go_of (s := { s with heap := h' }) e c d (by decide) ⟨x, H, I1, ru, ⟨rfl, fun ys hy => by rw [I.list_inj hy hq]; exact hx⟩, st', fun b hb => (hf b hb).1⟩⟩
  done := by
    intro X hP hw hK hc i pins s σ H E I hf st hg
    subst hP hw hK
    obtain ⟨xs, hq, hx⟩ := hg
    obtain ⟨its, rv, p, hz⟩ := I.list hq
    obtain ⟨f0, f1, f2, f3, f4, f5⟩ := hf it (by simp)
    have hl := rv.length
    exact wpAny_pyNext_list_end (I.ok.hd hc) st p.isList (by simp; omega) fun h' eb => ⟨rfl, I.turned (t' := s.toks) (fun b o hb e => eb b o hb e) f0 f1 f3 f4 f5⟩
  self := fun _ _ _ _ _ st h => wpAny_pyIter_listiter st h
theorem turn_tuple {P : Program} {w : World} {K : PySem.W.Frag} {tg : Expr} (a it : Addr) : Turn P w K tg (Itt K a) [it] it (fun i h => h.IsTupleIter it a i) where
  mem := by simp
  obj := fun i h st b hb => by
    have e : b = it := by simpa using hb
    subst e
    obtain ⟨o, e, c, d⟩ := st
    exact ⟨o, e, fun v z => by rw [d] at z; cases z⟩
  keep := fun i h h' st k => st.at fun o e => k it (by simp) o e
  item := by
    intro X hP hw hK hc i pins s σ H E I hf st hg
    subst hP hw hK
    obtain ⟨xs, x, hq, hx⟩ := hg
    obtain ⟨its, rv, p, hz⟩ := I.tuple hq
    obtain ⟨u, hu, ru⟩ := rv.get hx
    obtain ⟨f0, f1, f2, f3, f4, f5⟩ := hf it (by simp)
    refine wpAny_pyNext_tuple_item st (show s.heap.IsTuple a its.toArray from p) (x := u) (by simpa using hu) fun h' st' sb => ?_
    have I1 : Inv X pins σ H { s with heap := h' } := I.turned (t' := s.toks) (fun b o hb e => (sb.2 b hb).trans e) f0 f1 f3 f4 f5
    obtain ⟨o, e, c, d⟩ := id st'
    exact ⟨u, rfl, go_of (s := { s with heap := h' }) e c d (by decide) ⟨x, H, I1, ru, ⟨rfl, fun ys hy => by rw [I.tuple_inj hy hq]; exact hx⟩, st', fun b hb => (hf b hb).1⟩⟩
  done := by
    intro X hP hw hK hc i pins s σ H E I hf st hg
    subst hP hw hK
    obtain ⟨xs, hq, hx⟩ := hg
    obtain ⟨its, rv, p, hz⟩ := I.tuple hq
    obtain ⟨f0, f1, f2, f3, f4, f5⟩ := hf it (by simp)
    have hl := rv.length
    exact wpAny_pyNext_tuple_end (I.ok.hd hc) st (show s.heap.IsTuple a its.toArray from p) (by simp; omega) fun h' eb => ⟨rfl, I.turned (t' := s.toks) (fun b o hb e => eb b o hb e) f0 f1 f3 f4 f5⟩
  self := fun _ _ _ _ _ st h => wpAny_pyIter_tupleiter st h
theorem turn_range {P : Program} {w : World} {K : PySem.W.Frag} {tg : Expr} (it : Addr) (lo : Int) (n : Nat) : Turn P w K tg (Itr lo n) [it] it (fun i h => IsRangeIter h it (lo + (i : Nat) * 1) ((n : Int) - (i : Nat)) 1) where
  mem := by simp
  obj := fun i h st b hb => by
    have e : b = it := by simpa using hb
    subst e
    exact ⟨_, st, fun v z => by
      have z' : Data.fields _ = Data.cell v := z
      cases z'⟩
  keep := fun i h h' st k => k it (by simp) _ st
  item := by
    intro X hP hw hK hc i pins s σ H E I hf st hg
    subst hP hw hK
    obtain ⟨f0, f1, f2, f3, f4, f5⟩ := hf it (by simp)
    have W := Walks.range (prog := X.prog) (w := X.w) (I.ok.hd hc) it lo 1 n
    refine W.item i s _ _ hg st fun v h' tk hv st' kk => ?_
    obtain ⟨t, rfl⟩ := hv
    have I1 : Inv X pins σ H { s with heap := h', toks := tk } := I.turned (fun b o hb e => kk b o (by simpa using hb) e) f0 f1 f3 f4 f5
    refine ⟨_, rfl, go_of (s := { s with heap := h', toks := tk }) (n := "range_iterator") st' rfl rfl (by decide) ⟨.int (lo + i), H, I1, ⟨t, ?_⟩, ⟨rfl, rfl⟩, st', fun b hb => (hf b hb).1⟩⟩
    rw [Int.mul_one]
  done := by
    intro X hP hw hK hc i pins s σ H E I hf st hg
    subst hP hw hK
    obtain ⟨f0, f1, f2, f3, f4, f5⟩ := hf it (by simp)
    exact wpAny_pyNext_range_end (I.ok.hd hc) st (by have : n ≤ i := hg; omega) fun h' eb => ⟨rfl, I.turned (t' := s.toks) (fun b o hb e => eb b o hb e) f0 f1 f3 f4 f5⟩
  self := fun _ _ _ _ _ st h => wpAny_pyIter_rangeiter st h
end L2
namespace L2
open PySem PySem.Spec PyProof.Rows
section
variable {X : Cx} {tg : Expr}
noncomputable def iList (K : PySem.W.Frag) (tl : TE) : TI := fun σ H R => tl σ H fun x H1 => ∃ a, x = .ref a ∧ (∃ xs, SqL K H1 a xs) ∧ R (Itl K a) H1
noncomputable def iTup (K : PySem.W.Frag) (tl : TE) : TI := fun σ H R => tl σ H fun x H1 => ∃ a, x = .ref a ∧ (∃ xs, SqT K H1 a xs) ∧ R (Itt K a) H1
theorem pi_list {l : Expr} {tl : TE} (hl : PE X l tl) : PI X tg l (iList X.K tl) := by
  intro pins s σ H R I h
  refine thn (hl pins s σ H _ I h) fun v s1 ⟨x, H1, I1, r1, q1⟩ => ?_
  obtain ⟨a, e, ⟨xs, hq⟩, q⟩ := q1
  subst e
  cases r1
  obtain ⟨its, rv, p, hz⟩ := I1.list hq
  refine wpAny_pyIter_list p.isList ?_
  refine ⟨s1.heap.objs.size, [s1.heap.objs.size], _, _, H1, rfl, I1.kept (t' := s1.toks) fun b o e => Heap.get?_push_of_some _ e, turn_list a _, ⟨_, Heap.get?_push_size _ rfl, rfl, rfl⟩, fun b hb => ?_, q⟩
  have e : b = s1.heap.objs.size := by simpa using hb
  subst e
  exact I1.fpOk (Nat.le_refl _) (I1.hok.fresh (Nat.le_refl _))
theorem pi_tup {l : Expr} {tl : TE} (hl : PE X l tl) : PI X tg l (iTup X.K tl) := by
  intro pins s σ H R I h
  refine thn (hl pins s σ H _ I h) fun v s1 ⟨x, H1, I1, r1, q1⟩ => ?_
  obtain ⟨a, e, ⟨xs, hq⟩, q⟩ := q1
  subst e
  cases r1
  obtain ⟨its, rv, p, hz⟩ := I1.tuple hq
  refine wpAny_pyIter_tuple (show s1.heap.IsTuple a its.toArray from p) ?_
  refine ⟨s1.heap.objs.size, [s1.heap.objs.size], _, _, H1, rfl, I1.kept (t' := s1.toks) fun b o e => Heap.get?_push_of_some _ e, turn_tuple a _, ⟨_, Heap.get?_push_size _ rfl, rfl, rfl⟩, fun b hb => ?_, q⟩
  have e : b = s1.heap.objs.size := by simpa using hb
  subst e
  exact I1.fpOk (Nat.le_refl _) (I1.hok.fresh (Nat.le_refl _))
theorem range_it {pins : List (Addr × Obj)} {σ : St} {H : Hp} {s : Shared} {R : It → Hp → Prop} {E : Value → Shared → Prop} {lo hi : Int} {t u v : Tok} {tk : Nat} (I : Inv X pins σ H s) (h1 : -(2 ^ 62) ≤ lo) (h2 : lo < 2 ^ 62) (h3 : -(2 ^ 62) ≤ hi) (h4 : hi < 2 ^ 62)
    (q : R (Itr lo (hi - lo).toNat) H) : wpAny (model X.prog X.w) X.A (pyIter (.ref s.heap.objs.size)) (PIE X pins σ tg R) E { s with heap := s.heap.push { cls := .type "range", data := .fields #[.int lo t, .int hi u, .int 1 v] }, toks := tk } := by
  refine wpAny_pyIter_range (IsRange.new ..) (small_one h1 h2 h3 h4) ?_
  have I1 : Inv X pins σ H { s with heap := s.heap.push { cls := .type "range", data := .fields #[.int lo t, .int hi u, .int 1 v] }, toks := tk } := I.kept fun b o e => Heap.get?_push_of_some _ e
  refine ⟨(s.heap.push { cls := .type "range", data := .fields #[.int lo t, .int hi u, .int 1 v] }).objs.size, [(s.heap.push { cls := .type "range", data := .fields #[.int lo t, .int hi u, .int 1 v] }).objs.size], _, _, H, rfl,
    I1.kept (t' := tk) fun b o e => Heap.get?_push_of_some _ e, turn_range _ lo (hi - lo).toNat, ?_, fun b hb => ?_, q⟩
  · have e1 : lo + ((0 : Nat) : Int) * 1 = lo := by simp
    have e2 : (((hi - lo).toNat : Nat) : Int) - ((0 : Nat) : Int) = Builtin.Range.rangeSize lo hi 1 := by rw [rangeSize_one]; split <;> omega
    show IsRangeIter _ _ (lo + ((0 : Nat) : Int) * 1) ((((hi - lo).toNat : Nat) : Int) - ((0 : Nat) : Int)) 1
    rw [e1, e2]
    exact Heap.get?_push_size _ rfl
  · have e : b = (s.heap.push { cls := .type "range", data := .fields #[.int lo t, .int hi u, .int 1 v] }).objs.size := by simpa using hb
    subst e
    exact I1.fpOk (Nat.le_refl _) (I1.hok.fresh (Nat.le_refl _))
noncomputable def iRng1 (ta : TA) : TI := fun σ H R => ta σ H fun vs H1 => ∃ j : Int, vs = [.int j] ∧ -(2 ^ 62) ≤ j ∧ j < 2 ^ 62 ∧ R (Itr 0 j.toNat) H1
noncomputable def iRng2 (ta : TA) : TI := fun σ H R => ta σ H fun vs H1 => ∃ i j : Int, vs = [.int i, .int j] ∧ (-(2 ^ 62) ≤ i ∧ i < 2 ^ 62 ∧ -(2 ^ 62) ≤ j ∧ j < 2 ^ 62) ∧ R (Itr i (j - i).toNat) H1
theorem pi_range1 {a : Expr} {ta : TA} {p pos : Pos} (hg : Gl X "range") (hm : X.mg "range" = none) (ha : PA X [a] ta) (hs : starEach [a] X.env = [(false, eval a X.env)] := by rfl) : PI X tg (.Call (.Name "range" p) [a] [] pos) (iRng1 ta) := by
  intro pins s σ H R I h
  refine Call_ (ld_blt I hg hm boot_range (PyProof.Rows.callWith_type1 (thn (ha pos pins s σ H _ I h) fun us s1 ⟨vs, H1, I1, r1, q1⟩ => ?_) hs rfl))
  obtain ⟨j, e, q1, q2, q⟩ := q1
  subst e
  cases r1 with
  | cons r rr =>
    cases rr
    obtain ⟨t, rfl⟩ := r
    exact call_range_1 (range_it I1 (by omega) (by omega) q1 q2 (by simpa using q))
theorem pi_range2 {a b : Expr} {ta : TA} {p pos : Pos} (hg : Gl X "range") (hm : X.mg "range" = none) (ha : PA X [a, b] ta) (hs : starEach [a, b] X.env = [(false, eval a X.env), (false, eval b X.env)] := by rfl) (hs2 : starEach [b] X.env = [(false, eval b X.env)] := by rfl) :
    PI X tg (.Call (.Name "range" p) [a, b] [] pos) (iRng2 ta) := by
  intro pins s σ H R I h
  refine Call_ (ld_blt I hg hm boot_range (PyProof.Rows.callWith_type1 (thn (ha pos pins s σ H _ I h) fun us s1 ⟨vs, H1, I1, r1, q1⟩ => ?_) (by rw [hs, hs2]) (by rw [hs2]; rfl)))
  obtain ⟨i, j, e, ⟨q1, q2, q3, q4⟩, q⟩ := q1
  subst e
  cases r1 with
  | cons r rr =>
    cases rr with
    | cons r' rr =>
      cases rr
      obtain ⟨t, rfl⟩ := r
      obtain ⟨t', rfl⟩ := r'
      exact call_range_2 (range_it I1 q1 q2 q3 q4 q)
noncomputable def tFor (wi : TI) (g : TG) (tb : TS) : TS := fun D σ H => wi σ H fun J H1 => ∃ W : Nat → Nat → St → Hp → Prop, (∃ m, W 0 m σ H1) ∧ ∀ i m σ H, W i m σ H →
  (J.stop i H ∧ D.nx σ H) ∨ (J.go i H ∧ ∃ N : St → Hp → Prop, (∀ σ' H', N σ' H' → ∃ m', m' < m ∧ W (i + 1) m' σ' H') ∧ ∀ x H', J.yld i H x H' → g x σ H' fun σ2 H2 => tb { D with nx := N, ct := N, bk := D.nx } σ2 H2)
noncomputable def pinsAt (fp : List Addr) (h : Heap) : List (Addr × Obj) := fp.filterMap fun b => (h.get? b).map fun o => (b, o)
theorem mem_pinsAt {fp : List Addr} {h : Heap} {b : Addr} {o : Obj} (hb : b ∈ fp) (e : h.get? b = some o) : (b, o) ∈ pinsAt fp h := List.mem_filterMap.mpr ⟨b, hb, by rw [e]; rfl⟩
theorem of_pinsAt {fp : List Addr} {h : Heap} {p : Addr × Obj} (hp : p ∈ pinsAt fp h) : p.1 ∈ fp ∧ h.get? p.1 = some p.2 := by
  obtain ⟨b, hb, e⟩ := List.mem_filterMap.mp hp
  cases q : h.get? b with
  | none => rw [q] at e; cases e
  | some o =>
    rw [q] at e
    have e' : (b, o) = p := Option.some.inj e
    subst e'
    exact ⟨hb, q⟩
theorem Inv.pinned {pins : List (Addr × Obj)} {σ : St} {H : Hp} {s : Shared} {fp : List Addr} (I : Inv X pins σ H s) (hf : ∀ b ∈ fp, FpOk X pins H b) (ho : ∀ b ∈ fp, ∃ o, s.heap.get? b = some o ∧ ∀ v, o.data ≠ .cell v) : Inv X (pins ++ pinsAt fp s.heap) σ H s :=
  I.pins_of fun p hp => (List.mem_append.mp hp).elim (fun z => I.pin p (List.mem_append_right _ z)) fun z => by
    obtain ⟨hb, e⟩ := of_pinsAt z
    obtain ⟨f0, f1, f2, _⟩ := hf p.1 hb
    obtain ⟨o, e', d⟩ := ho p.1 hb
    rw [e] at e'; cases e'
    exact ⟨e, f0, f1, f2, d⟩
theorem Inv.unpinned {pins pl : List (Addr × Obj)} {σ : St} {H : Hp} {s : Shared} (I : Inv X (pins ++ pl) σ H s) : Inv X pins σ H s := I.pins_of fun p hp => I.pin p (List.mem_append_right _ (List.mem_append_left _ hp))
theorem ps_for {iter : Expr} {body : List Stmt} {wi : TI} {g : TG} {tb : TS} {pos : Pos} (hp : PassesOwn (model X.prog X.w) X.A X.env X.xe) (hc : X.calm = true) (hi : PI X tg iter wi) (hg : PG X tg g) (hb : PSs X body tb)
    (hs : ∀ x, foldedSetIterable iter X.env x = pure x := by intro _; rfl) : PS X (.For tg iter body [] pos) (tFor wi g tb) := by
  intro pins s σ H D I h
  refine wpAny_For (thn (hi pins s σ H _ I h) fun v s1 h1 => thn h1 fun itv s2 h2 => ?_) hs
  obtain ⟨it, fp, tn, J, H2, e, I2, T, st2, f2, W, ⟨m0, w0⟩, turn⟩ := h2
  subst e
  -- what stays true of the iterator's objects through the loop
  have stat : ∀ {H' : Hp}, (∀ b ∈ fp, H' b = none) → ∀ b ∈ fp, FpOk X pins H' b := fun hn b hb => ⟨hn b hb, (f2 b hb).2⟩
  refine codeAny_forLoop_any (fun n s' => ∃ i σ' H', Inv X pins σ' H' s' ∧ tn i s'.heap ∧ (∀ b ∈ fp, H' b = none) ∧ W i n σ' H') ?_ m0 ⟨0, σ, H2, I2, st2, fun b hb => (f2 b hb).1, w0⟩
  rintro n s3 ⟨i, σ3, H3, I3, st3, fr3, w3⟩
  rcases turn i n σ3 H3 w3 with ⟨stop, qn⟩ | ⟨go, N, hN, step⟩
  · refine wpAny_passesOwn hp (thn (T.done X rfl rfl rfl hc i pins s3 σ3 H3 X.xe I3 (stat fr3) st3 stop) fun r s4 ⟨hr, I4⟩ => ?_)
    subst hr
    exact wpAny_execs_nil ⟨σ3, H3, I4, qn⟩
  · refine wpAny_passesOwn hp (thn (T.item X rfl rfl rfl hc i pins s3 σ3 H3 X.xe I3 (stat fr3) st3 go) fun r s4 ⟨u, hr, h4⟩ => ?_)
    subst hr
    refine wpAny_passesOwn hp (thn h4 fun _ s5 ⟨x, H5, I5, r5, y5, st5, fr5⟩ => ?_)
    have I5' := I5.pinned (stat fr5) (T.obj _ _ st5)
    refine wpAny_passesOwn hp (thn (hg _ s5 σ3 H5 x u _ I5' r5 (step x H5 y5)) fun _ s6 ⟨σ6, H6, I6, q6⟩ => ?_)
    refine wpAny_passesOwn hp (thn (hb _ s6 σ6 H6 _ I6 q6) fun f s7 q7 => ?_)
    have again : ∀ {σ7 : St} {H7 : Hp}, Inv X (pins ++ pinsAt fp s5.heap) σ7 H7 s7 → N σ7 H7 → ∃ m, m < n ∧ ∃ i σ' H', Inv X pins σ' H' s7 ∧ tn i s7.heap ∧ (∀ b ∈ fp, H' b = none) ∧ W i m σ' H' := fun {σ7 H7} I7 n7 => by
      obtain ⟨m', hm, w7⟩ := hN σ7 H7 n7
      refine ⟨m', hm, i + 1, σ7, H7, I7.unpinned, T.keep _ _ _ st5 fun b hb o e => (I7.pin (b, o) (List.mem_append_right _ (List.mem_append_right _ (mem_pinsAt hb e)))).1, fun b hb => ?_, w7⟩
      obtain ⟨o, e, d⟩ := T.obj _ _ st5 b hb
      exact (I7.pin (b, o) (List.mem_append_right _ (List.mem_append_right _ (mem_pinsAt hb e)))).2.1
    cases f with
    | next => obtain ⟨σ7, H7, I7, n7⟩ := q7; exact again I7 n7
    | cont => obtain ⟨σ7, H7, I7, n7⟩ := q7; exact again I7 n7
    | brk => obtain ⟨σ7, H7, I7, q7⟩ := q7; exact ⟨σ7, H7, I7.unpinned, q7⟩
    | ret v => obtain ⟨x7, σ7, H7, I7, r7, q7⟩ := q7; exact ⟨x7, σ7, H7, I7.unpinned, r7, q7⟩
end
theorem for_list {K : PySem.W.Frag} {a : Addr} {xs : List V} {g : TG} {tb : TS} {D : Ends} {σ : St} {H : Hp} (Pv : Nat → St → Hp → Prop) (h0 : Pv 0 σ H) (hl : ∀ i σ H, i ≤ xs.length → Pv i σ H → SqL K H a xs)
    (hs : ∀ i x σ H, xs[i]? = some x → Pv i σ H → g x σ H fun σ2 H2 => tb { D with nx := Pv (i + 1), ct := Pv (i + 1), bk := D.nx } σ2 H2) (hd : ∀ σ H, Pv xs.length σ H → D.nx σ H) :
    ∃ W : Nat → Nat → St → Hp → Prop, (∃ m, W 0 m σ H) ∧ ∀ i m σ H, W i m σ H →
      ((Itl K a).stop i H ∧ D.nx σ H) ∨ ((Itl K a).go i H ∧ ∃ N : St → Hp → Prop, (∀ σ' H', N σ' H' → ∃ m', m' < m ∧ W (i + 1) m' σ' H') ∧ ∀ x H', (Itl K a).yld i H x H' → g x σ H' fun σ2 H2 => tb { D with nx := N, ct := N, bk := D.nx } σ2 H2) := by
  refine ⟨fun i m σ H => m = xs.length - i ∧ i ≤ xs.length ∧ Pv i σ H, ⟨xs.length, by simp, Nat.zero_le _, h0⟩, ?_⟩
  rintro i m σ H ⟨rfl, hi, p⟩
  have q := hl i σ H hi p
  by_cases hlt : i < xs.length
  · refine .inr ⟨⟨xs, xs[i], q, by simp [hlt]⟩, Pv (i + 1), fun σ' H' p' => ⟨xs.length - (i + 1), by omega, rfl, hlt, p'⟩, fun x H' y => ?_⟩
    obtain ⟨e, y⟩ := y
    subst e
    exact hs i x σ _ (y xs q) p
  · have e : i = xs.length := by omega
    subst e
    exact .inl ⟨⟨xs, q, Nat.le_refl _⟩, hd σ H p⟩
theorem for_tup {K : PySem.W.Frag} {a : Addr} {xs : List V} {g : TG} {tb : TS} {D : Ends} {σ : St} {H : Hp} (Pv : Nat → St → Hp → Prop) (h0 : Pv 0 σ H) (hl : ∀ i σ H, i ≤ xs.length → Pv i σ H → SqT K H a xs)
    (hs : ∀ i x σ H, xs[i]? = some x → Pv i σ H → g x σ H fun σ2 H2 => tb { D with nx := Pv (i + 1), ct := Pv (i + 1), bk := D.nx } σ2 H2) (hd : ∀ σ H, Pv xs.length σ H → D.nx σ H) :
    ∃ W : Nat → Nat → St → Hp → Prop, (∃ m, W 0 m σ H) ∧ ∀ i m σ H, W i m σ H →
      ((Itt K a).stop i H ∧ D.nx σ H) ∨ ((Itt K a).go i H ∧ ∃ N : St → Hp → Prop, (∀ σ' H', N σ' H' → ∃ m', m' < m ∧ W (i + 1) m' σ' H') ∧ ∀ x H', (Itt K a).yld i H x H' → g x σ H' fun σ2 H2 => tb { D with nx := N, ct := N, bk := D.nx } σ2 H2) := by
  refine ⟨fun i m σ H => m = xs.length - i ∧ i ≤ xs.length ∧ Pv i σ H, ⟨xs.length, by simp, Nat.zero_le _, h0⟩, ?_⟩
  rintro i m σ H ⟨rfl, hi, p⟩
  have q := hl i σ H hi p
  by_cases hlt : i < xs.length
  · refine .inr ⟨⟨xs, xs[i], q, by simp [hlt]⟩, Pv (i + 1), fun σ' H' p' => ⟨xs.length - (i + 1), by omega, rfl, hlt, p'⟩, fun x H' y => ?_⟩
    obtain ⟨e, y⟩ := y
    subst e
    exact hs i x σ _ (y xs q) p
  · have e : i = xs.length := by omega
    subst e
    exact .inl ⟨⟨xs, q, Nat.le_refl _⟩, hd σ H p⟩
theorem for_range {lo : Int} {n : Nat} {g : TG} {tb : TS} {D : Ends} {σ : St} {H : Hp} (Pv : Nat → St → Hp → Prop) (h0 : Pv 0 σ H)
    (hs : ∀ i σ H, i < n → Pv i σ H → g (.int (lo + i)) σ H fun σ2 H2 => tb { D with nx := Pv (i + 1), ct := Pv (i + 1), bk := D.nx } σ2 H2) (hd : ∀ σ H, Pv n σ H → D.nx σ H) :
    ∃ W : Nat → Nat → St → Hp → Prop, (∃ m, W 0 m σ H) ∧ ∀ i m σ H, W i m σ H →
      ((Itr lo n).stop i H ∧ D.nx σ H) ∨ ((Itr lo n).go i H ∧ ∃ N : St → Hp → Prop, (∀ σ' H', N σ' H' → ∃ m', m' < m ∧ W (i + 1) m' σ' H') ∧ ∀ x H', (Itr lo n).yld i H x H' → g x σ H' fun σ2 H2 => tb { D with nx := N, ct := N, bk := D.nx } σ2 H2) := by
  refine ⟨fun i m σ H => m = n - i ∧ i ≤ n ∧ Pv i σ H, ⟨n, by simp, Nat.zero_le _, h0⟩, ?_⟩
  rintro i m σ H ⟨rfl, hi, p⟩
  by_cases hlt : i < n
  · refine .inr ⟨hlt, Pv (i + 1), fun σ' H' p' => ⟨n - (i + 1), by omega, rfl, hlt, p'⟩, fun x H' y => ?_⟩
    obtain ⟨e, y⟩ := y
    subst e y
    exact hs i σ _ hlt p
  · have e : i = n := by omega
    subst e
    exact .inl ⟨Nat.le_refl _, hd σ H p⟩
theorem while_by {c : TT} {tb : TS} {D : Ends} {σ : St} {H : Hp} (Pv : St → Hp → Prop) (μ : St → Hp → Nat) (h0 : Pv σ H)
    (hs : ∀ σ H, Pv σ H → c σ H fun b H1 => if b = true then tb { D with nx := fun σ' H' => Pv σ' H' ∧ μ σ' H' < μ σ H, ct := fun σ' H' => Pv σ' H' ∧ μ σ' H' < μ σ H, bk := D.nx } σ H1 else D.nx σ H1)
    (mono : ∀ σ H Q Q', (∀ b H1, Q b H1 → Q' b H1) → c σ H Q → c σ H Q') : tWhile c tb D σ H := by
  refine ⟨fun m σ H => m = μ σ H ∧ Pv σ H, ⟨_, rfl, h0⟩, ?_⟩
  rintro m σ H ⟨rfl, p⟩
  refine mono σ H _ _ (fun b H1 q => ?_) (hs σ H p)
  cases b with
  | true => exact ⟨_, fun σ' H' ⟨p', l⟩ => ⟨_, l, rfl, p'⟩, q⟩
  | false => exact q
end L2
namespace L2
open PySem PySem.Spec PyProof.Rows
noncomputable abbrev R2 := V → V → Hp → VK → Prop
noncomputable def OpR (X : Cx) (f : Value → Value → Sem Value) (r : R2) : Prop :=
  ∀ (pins : List (Addr × Obj)) (s : Shared) (σ : St) (H : Hp) (x y : V) (v u : Value) (Q : VK), Inv X pins σ H s → RelV x v → RelV y u → r x y H Q →
    wpAny (model X.prog X.w) X.A (f v u) (EP X pins σ Q) X.xe s
noncomputable def UnR (X : Cx) (f : Value → Sem Value) (r : V → Hp → VK → Prop) : Prop :=
  ∀ (pins : List (Addr × Obj)) (s : Shared) (σ : St) (H : Hp) (x : V) (v : Value) (Q : VK), Inv X pins σ H s → RelV x v → r x H Q →
    wpAny (model X.prog X.w) X.A (f v) (EP X pins σ Q) X.xe s
noncomputable def CallR (X : Cx) (f : Value) (r : List V → Hp → VK → Prop) : Prop :=
  ∀ (pins : List (Addr × Obj)) (s : Shared) (σ : St) (H : Hp) (xs : List V) (us : List Value) (Q : VK), Inv X pins σ H s → Vals xs us → r xs H Q →
    wpAny (model X.prog X.w) X.A (call f us) (EP X pins σ Q) X.xe s
noncomputable def tOp (r : R2) (ta tb : TE) : TE := fun σ H Q => ta σ H fun x H1 => tb σ H1 fun y H2 => r x y H2 Q
noncomputable def tUn (r : V → Hp → VK → Prop) (ta : TE) : TE := fun σ H Q => ta σ H fun x H1 => r x H1 Q
noncomputable def rI (C : Int → Int → Prop) (g : Int → Int → V) : R2 := fun x y H Q => ∃ i j, x = .int i ∧ y = .int j ∧ C i j ∧ Q (g i j) H
noncomputable def rI0 (g : Int → Int → V) : R2 := fun x y H Q => ∃ i j, x = .int i ∧ y = .int j ∧ Q (g i j) H
noncomputable def rU (g : Int → V) : V → Hp → VK → Prop := fun x H Q => ∃ i, x = .int i ∧ Q (g i) H
section
variable {X : Cx} {a b c : Expr} {ta tb tc : TE} {pos : Pos}
theorem binT (ha : PE X a ta) (hb : PE X b tb) {pins : List (Addr × Obj)} {s : Shared} {σ : St} {H : Hp} {R : V → V → Hp → Prop} (I : Inv X pins σ H s)
    (h : ta σ H fun x H1 => tb σ H1 fun y H2 => R x y H2) {Q : Value → Shared → Prop} {f : Value → Value → Sem Value}
    (hf : ∀ v u s2 x y H2, Inv X pins σ H2 s2 → RelV x v → RelV y u → R x y H2 → wpAny (model X.prog X.w) X.A (f v u) Q X.xe s2) :
    wpAny (model X.prog X.w) X.A (eval a X.env) (fun v s₁ => wpAny (model X.prog X.w) X.A (eval b X.env) (fun u s₂ => wpAny (model X.prog X.w) X.A (f v u) Q X.xe s₂) X.xe s₁) X.xe s := by
  refine thn (ha pins s σ H _ I h) fun v s1 ⟨x, H1, I1, r1, q1⟩ => ?_
  refine thn (hb pins s1 σ H1 _ I1 q1) fun u s2 ⟨y, H2, I2, r2, q2⟩ => ?_
  exact hf v u s2 x y H2 I2 r1 r2 q2
theorem pe_op {op : Operator} {r : R2} (ho : OpR X (binaryOp op) r) (ha : PE X a ta) (hb : PE X b tb) : PE X (.BinOp a op b pos) (tOp r ta tb) := by
  intro pins s σ H Q I h
  exact wpAny_BinOp (binT ha hb I h fun v u s2 x y H2 I2 rx ry q => ho pins s2 σ H2 x y v u Q I2 rx ry q)
theorem pe_un {op : UnaryOp} {r : V → Hp → VK → Prop} (ho : UnR X (unaryOp op) r) (ha : PE X a ta) : PE X (.UnaryOp op a pos) (tUn r ta) := by
  intro pins s σ H Q I h
  exact UnaryOp_ (thn (ha pins s σ H _ I h) fun v s1 ⟨x, H1, I1, r1, q1⟩ => ho pins s1 σ H1 x v Q I1 r1 q1)
theorem opI {f : Value → Value → Sem Value} {C : Int → Int → Prop} {g : Int → Int → Int}
    (rule : ∀ (i j : Int) (t u : Tok) (s : Shared) (Q : Value → Shared → Prop) (E : Value → Shared → Prop), C i j → Q (.int (g i j) s.toks) { s with toks := s.toks + 1 } → wpAny (model X.prog X.w) X.A (f (.int i t) (.int j u)) Q E s) :
    OpR X f (rI C fun i j => .int (g i j)) := by
  intro pins s σ H x y v u Q I rx ry h
  obtain ⟨i, j, rfl, rfl, hc, q⟩ := h
  obtain ⟨t, rfl⟩ := rx
  obtain ⟨t', rfl⟩ := ry
  exact rule i j t t' s _ _ hc ⟨.int (g i j), H, I.tok _, ⟨_, rfl⟩, q⟩
theorem opI0 {f : Value → Value → Sem Value} {g : Int → Int → Int}
    (rule : ∀ (i j : Int) (t u : Tok) (s : Shared) (Q : Value → Shared → Prop) (E : Value → Shared → Prop), Q (.int (g i j) s.toks) { s with toks := s.toks + 1 } → wpAny (model X.prog X.w) X.A (f (.int i t) (.int j u)) Q E s) :
    OpR X f (rI0 fun i j => .int (g i j)) := by
  intro pins s σ H x y v u Q I rx ry h
  obtain ⟨i, j, rfl, rfl, q⟩ := h
  obtain ⟨t, rfl⟩ := rx
  obtain ⟨t', rfl⟩ := ry
  exact rule i j t t' s _ _ ⟨.int (g i j), H, I.tok _, ⟨_, rfl⟩, q⟩
theorem opB0 {f : Value → Value → Sem Value} {g : Int → Int → Bool}
    (rule : ∀ (i j : Int) (t u : Tok) (s : Shared) (Q : Value → Shared → Prop) (E : Value → Shared → Prop), Q (.bool (g i j)) s → wpAny (model X.prog X.w) X.A (f (.int i t) (.int j u)) Q E s) :
    OpR X f (rI0 fun i j => .bl (g i j)) := by
  intro pins s σ H x y v u Q I rx ry h
  obtain ⟨i, j, rfl, rfl, q⟩ := h
  obtain ⟨t, rfl⟩ := rx
  obtain ⟨t', rfl⟩ := ry
  exact rule i j t t' s _ _ ⟨.bl (g i j), H, I, rfl, q⟩
noncomputable def CPow (i j : Int) : Prop := 0 ≤ j ∧ j ≤ 1000000 ∧ i.natAbs < 2 ^ 64
noncomputable def CMul (i j : Int) : Prop := (-(2 ^ 64) < i ∧ i < 2 ^ 64) ∨ (-(2 ^ 64) < j ∧ j < 2 ^ 64)
theorem CMul.ok {i j : Int} (h : CMul i j) : IntMulOk i j := by
  rcases h with ⟨h1, h2⟩ | ⟨h1, h2⟩
  · exact .of_left (intBits_le_64 h1 h2)
  · exact .of_right (intBits_le_64 h1 h2)
theorem op_add : OpR X (binaryOp .Add) (rI0 fun i j => .int (i + j)) := opI0 fun _ _ _ _ _ _ _ q => add_int q
theorem op_sub : OpR X (binaryOp .Sub) (rI0 fun i j => .int (i - j)) := opI0 fun _ _ _ _ _ _ _ q => sub_int q
theorem op_mod : OpR X (binaryOp .Mod) (rI (fun _ j => 0 < j) fun i j => .int (i % j)) := opI fun i j _ _ _ _ _ hc q => by
  have h1 : (0 : Int) < j := hc
  exact mod_int' (by omega) (by rw [Int.fmod_eq_emod_of_nonneg i (by omega)]; exact q)
theorem op_modN : OpR X (binaryOp .Mod) (rI (fun _ j => j ≠ 0) fun i j => .int (i.fmod j)) := opI fun _ _ _ _ _ _ _ hc q => mod_int' hc q
theorem op_pow : OpR X (binaryOp .Pow) (rI CPow fun i j => .int (i ^ j.toNat)) := opI fun _ _ _ _ _ _ _ hc q => pow_int_small hc.1 hc.2.1 hc.2.2 q
theorem unI {f : Value → Sem Value} {g : Int → Int}
    (rule : ∀ (i : Int) (t : Tok) (s : Shared) (Q : Value → Shared → Prop) (E : Value → Shared → Prop), Q (.int (g i) s.toks) { s with toks := s.toks + 1 } → wpAny (model X.prog X.w) X.A (f (.int i t)) Q E s) :
    UnR X f (rU fun i => .int (g i)) := by
  intro pins s σ H x v Q I rx h
  obtain ⟨i, rfl, q⟩ := h
  obtain ⟨t, rfl⟩ := rx
  exact rule i t s _ _ ⟨.int (g i), H, I.tok _, ⟨_, rfl⟩, q⟩
theorem un_neg : UnR X (unaryOp .USub) (rU fun i => .int (-i)) := unI fun _ _ _ _ _ q => neg_int q
end
noncomputable def scal : V → V → Bool
  | .non, .non => true | .non, .int _ => true | .int _, .non => true | .non, .bl _ => true | .bl _, .non => true | .non, .str _ => true | .str _, .non => true
  | .int _, .int _ => true | .bl _, .bl _ => true | .str _, .str _ => true | .byt _, .byt _ => true
  | .int _, .str _ => true | .str _, .int _ => true | .bl _, .str _ => true | .str _, .bl _ => true
  | _, _ => false
noncomputable def rEq : R2 := fun x y H Q => scal x y = true ∧ Q (.bl (decide (x = y))) H
noncomputable def rNe : R2 := fun x y H Q => scal x y = true ∧ Q (.bl (!decide (x = y))) H
theorem dec_int {i j : Int} : decide (V.int i = V.int j) = (i == j) := by
  rw [Bool.eq_iff_iff]
  simp
theorem dec_bl {i j : Bool} : decide (V.bl i = V.bl j) = (i == j) := by
  rw [Bool.eq_iff_iff]
  simp
theorem dec_str {i j : Str} : decide (V.str i = V.str j) = (i == j) := by
  rw [Bool.eq_iff_iff]
  simp
theorem dec_byt {i j : Array UInt8} : decide (V.byt i = V.byt j) = (i.toList == j.toList) := by
  rw [Bool.eq_iff_iff]
  cases i
  cases j
  simp
section
variable {X : Cx} {a b c : Expr} {ta tb tc : TE} {pos : Pos}
theorem fin_bl {pins : List (Addr × Obj)} {σ : St} {H : Hp} {s : Shared} {Q : VK} {k k' : Bool} (I : Inv X pins σ H s) (q : Q (.bl k) H) (e : k = k') : EP X pins σ Q (.bool k') s := by
  subst e
  exact ⟨.bl k, H, I, rfl, q⟩
theorem op_eq : OpR X (compareOp .Eq) rEq := by
  intro pins s σ H x y v u Q I rx ry h
  obtain ⟨hs, q⟩ := h
  cases x with
  | non =>
    cases rx
    cases y with
    | non => cases ry; exact PySem.EqNone.eq_none_none (fin_bl I q (by simp))
    | bl j => cases ry; exact PySem.EqNone.eq_none_bool (fin_bl I q (by simp))
    | int j => obtain ⟨t', rfl⟩ := ry; exact PySem.EqNone.eq_none_int (fin_bl I q (by simp))
    | str j => obtain ⟨t', rfl⟩ := ry; exact PySem.EqNone.eq_none_str (fin_bl I q (by simp))
    | _ => exact absurd (show false = true from hs) Bool.false_ne_true
  | bl i =>
    cases rx
    cases y with
    | non => cases ry; exact PySem.EqNone.eq_bool_none (fin_bl I q (by simp))
    | bl j => cases ry; exact eq_bool (fin_bl I q dec_bl)
    | str j => obtain ⟨t', rfl⟩ := ry; exact PySem.EqMixed.eq_bool_str (fin_bl I q (by simp))
    | _ => exact absurd (show false = true from hs) Bool.false_ne_true
  | int i =>
    obtain ⟨t, rfl⟩ := rx
    cases y with
    | non => cases ry; exact PySem.EqNone.eq_int_none (fin_bl I q (by simp))
    | int j => obtain ⟨t', rfl⟩ := ry; exact eq_int (fin_bl I q dec_int)
    | str j => obtain ⟨t', rfl⟩ := ry; exact PySem.EqMixed.eq_int_str (fin_bl I q (by simp))
    | _ => exact absurd (show false = true from hs) Bool.false_ne_true
  | str i =>
    obtain ⟨t, rfl⟩ := rx
    cases y with
    | non => cases ry; exact PySem.EqNone.eq_str_none (fin_bl I q (by simp))
    | bl j => cases ry; exact PySem.EqMixed.eq_str_bool (fin_bl I q (by simp))
    | int j => obtain ⟨t', rfl⟩ := ry; exact PySem.EqMixed.eq_str_int (fin_bl I q (by simp))
    | str j => obtain ⟨t', rfl⟩ := ry; exact eq_str (fin_bl I q dec_str)
    | _ => exact absurd (show false = true from hs) Bool.false_ne_true
  | byt i =>
    obtain ⟨t, rfl⟩ := rx
    cases y with
    | byt j => obtain ⟨t', rfl⟩ := ry; exact PySem.W.eq_bytes (fin_bl I q dec_byt)
    | _ => exact absurd (show false = true from hs) Bool.false_ne_true
  | _ => cases y <;> exact absurd (show false = true from hs) Bool.false_ne_true
theorem op_ne : OpR X (compareOp .NotEq) rNe := by
  intro pins s σ H x y v u Q I rx ry h
  obtain ⟨hs, q⟩ := h
  cases x with
  | non =>
    cases rx
    cases y with
    | non => cases ry; exact PySem.EqNone.ne_none_none (fin_bl I q (by simp))
    | bl j => cases ry; exact PySem.EqNone.ne_none_bool (fin_bl I q (by simp))
    | int j => obtain ⟨t', rfl⟩ := ry; exact PySem.EqNone.ne_none_int (fin_bl I q (by simp))
    | str j => obtain ⟨t', rfl⟩ := ry; exact PySem.EqNone.ne_none_str (fin_bl I q (by simp))
    | _ => exact absurd (show false = true from hs) Bool.false_ne_true
  | bl i =>
    cases rx
    cases y with
    | non => cases ry; exact PySem.EqNone.ne_bool_none (fin_bl I q (by simp))
    | bl j => cases ry; exact ne_bool (fin_bl I q (congrArg not dec_bl))
    | str j => obtain ⟨t', rfl⟩ := ry; exact PySem.EqMixed.ne_bool_str (fin_bl I q (by simp))
    | _ => exact absurd (show false = true from hs) Bool.false_ne_true
  | int i =>
    obtain ⟨t, rfl⟩ := rx
    cases y with
    | non => cases ry; exact PySem.EqNone.ne_int_none (fin_bl I q (by simp))
    | int j => obtain ⟨t', rfl⟩ := ry; exact ne_int (fin_bl I q (congrArg not dec_int))
    | str j => obtain ⟨t', rfl⟩ := ry; exact PySem.EqMixed.ne_int_str (fin_bl I q (by simp))
    | _ => exact absurd (show false = true from hs) Bool.false_ne_true
  | str i =>
    obtain ⟨t, rfl⟩ := rx
    cases y with
    | non => cases ry; exact PySem.EqNone.ne_str_none (fin_bl I q (by simp))
    | bl j => cases ry; exact PySem.EqMixed.ne_str_bool (fin_bl I q (by simp))
    | int j => obtain ⟨t', rfl⟩ := ry; exact PySem.EqMixed.ne_str_int (fin_bl I q (by simp))
    | str j => obtain ⟨t', rfl⟩ := ry; exact ne_str (fin_bl I q (congrArg not dec_str))
    | _ => exact absurd (show false = true from hs) Bool.false_ne_true
  | byt i =>
    obtain ⟨t, rfl⟩ := rx
    cases y with
    | byt j => obtain ⟨t', rfl⟩ := ry; exact PySem.W.ne_bytes (fin_bl I q (congrArg not dec_byt))
    | _ => exact absurd (show false = true from hs) Bool.false_ne_true
  | _ => cases y <;> exact absurd (show false = true from hs) Bool.false_ne_true
theorem op_lt : OpR X (compareOp .Lt) (rI0 fun i j => .bl (decide (i < j))) := opB0 fun _ _ _ _ _ _ _ q => lt_int q
theorem op_le : OpR X (compareOp .LtE) (rI0 fun i j => .bl (decide (i ≤ j))) := opB0 fun _ _ _ _ _ _ _ q => le_int q
theorem op_gt : OpR X (compareOp .Gt) (rI0 fun i j => .bl (decide (j < i))) := opB0 fun _ _ _ _ _ _ _ q => gt_int q
theorem op_ge : OpR X (compareOp .GtE) (rI0 fun i j => .bl (decide (j ≤ i))) := opB0 fun _ _ _ _ _ _ _ q => ge_int q
theorem op_isN : OpR X (compareOp .Is) (fun x y H Q => y = .non ∧ Q (.bl (decide (x = .non))) H) := by
  intro pins s σ H x y v u Q I rx ry h
  obtain ⟨rfl, q⟩ := h
  cases ry
  refine is_none_gen (fin_bl I q ?_)
  cases x <;> first
    | (cases rx; rfl)
    | (obtain ⟨t, rfl⟩ := rx; rfl)
theorem op_notN : OpR X (compareOp .IsNot) (fun x y H Q => y = .non ∧ Q (.bl (!decide (x = .non))) H) := by
  intro pins s σ H x y v u Q I rx ry h
  obtain ⟨rfl, q⟩ := h
  cases ry
  refine isnot_none_gen (fin_bl I q ?_)
  cases x <;> first
    | (cases rx; rfl)
    | (obtain ⟨t, rfl⟩ := rx; rfl)
theorem OpR.or {f : Value → Value → Sem Value} {r r' : R2} (h : OpR X f r) (h' : OpR X f r') : OpR X f (fun x y H Q => r x y H Q ∨ r' x y H Q) := by
  intro pins s σ H x y v u Q I rx ry q
  rcases q with q | q
  · exact h pins s σ H x y v u Q I rx ry q
  · exact h' pins s σ H x y v u Q I rx ry q
theorem nomark (b : Expr) {op : CmpOp} (h : op ≠ .In := by decide) (h2 : op ≠ .NotIn := by decide) : behindInMarks op b = false := by
  have e1 : (op == CmpOp.In) = false := by cases op <;> first | rfl | exact absurd rfl h
  have e2 : (op == CmpOp.NotIn) = false := by cases op <;> first | rfl | exact absurd rfl h2
  cases b <;> simp [behindInMarks, e1, e2]
theorem pe_cmpR {op : CmpOp} {r : R2} (ho : OpR X (compareOp op) r) (ha : PE X a ta) (hb : PE X b tb) (hm : behindInMarks op b = false) : PE X (.Compare a [op] [b] pos) (tOp r ta tb) := by
  intro pins s σ H Q I h
  exact wpAny_Compare1 (binT ha hb I h fun v u s2 x y H2 I2 rx ry q => ho pins s2 σ H2 x y v u Q I2 rx ry q) hm
noncomputable def tTest (t : TE) : TT := fun σ H Q => t σ H fun x H' => ∃ k, x = .bl k ∧ Q k H'
theorem pt_cmpR {op : CmpOp} {r : R2} (ho : OpR X (compareOp op) r) (ha : PE X a ta) (hb : PE X b tb) (hm : behindInMarks op b = false) : PT X (.Compare a [op] [b] pos) (tTest (tOp r ta tb)) := by
  intro pins s σ H Q I h
  refine wpAny_isTrue_Compare1 (thn (ha pins s σ H _ I h) fun v s1 ⟨x, H1, I1, r1, q1⟩ => thn (hb pins s1 σ H1 _ I1 q1) fun u s2 ⟨y, H2, I2, r2, q2⟩ =>
    thn (ho pins s2 σ H2 x y v u _ I2 r1 r2 q2) fun c s3 ⟨z, H3, I3, r3, k, e, q3⟩ => ?_) hm
  subst e
  cases r3
  exact wpAny_truthy_bool ⟨H3, I3, q3⟩
noncomputable def tChain (r r' : R2) (ta tb tc : TE) : TE := fun σ H Q => ta σ H fun x H1 => tb σ H1 fun y H2 => r x y H2 fun z H3 => ∃ k, z = .bl k ∧
  (if k = true then tc σ H3 fun w' H4 => r' y w' H4 Q else Q (.bl false) H3)
theorem pe_chain {op op' : CmpOp} {r r' : R2} (ho : OpR X (compareOp op) r) (ho' : OpR X (compareOp op') r') (ha : PE X a ta) (hb : PE X b tb) (hc : PE X c tc)
    (hm : lastMarks [op, op'] [b, c] = false := by with_unfolding_all rfl) : PE X (.Compare a [op, op'] [b, c] pos) (tChain r r' ta tb tc) := by
  intro pins s σ H Q I h
  refine Compare_chain (thn (ha pins s σ H _ I h) fun v s1 ⟨x, H1, I1, r1, q1⟩ => chain_link (thn (hb pins s1 σ H1 _ I1 q1) fun u s2 ⟨y, H2, I2, r2, q2⟩ =>
    thn (ho pins s2 σ H2 x y v u _ I2 r1 r2 q2) fun d s3 ⟨z, H3, I3, r3, k, e, q3⟩ => ?_)) hm
  subst e
  cases r3
  refine wpAny_truthy_bool ?_
  cases k with
  | false => exact ite_ff ⟨.bl false, H3, I3, rfl, q3⟩
  | true => exact ite_tt (chain_last (thn (hc pins s3 σ H3 _ I3 q3) fun w' s4 ⟨z', H4, I4, r4, q4⟩ => ho' pins s4 σ H4 y z' u w' Q I4 r2 r4 q4))
theorem line63 : (sizeLine : Nat) < 2 ^ 63 := by rw [sizeLine_eq]; decide
theorem op_add_str : OpR X (binaryOp .Add) (fun x y H Q => ∃ i j, x = .str i ∧ y = .str j ∧ i.length + j.length ≤ sizeLine ∧ Q (.str (i ++ j)) H) := by
  intro pins s σ H x y v u Q I rx ry h
  obtain ⟨i, j, rfl, rfl, hz, q⟩ := h
  obtain ⟨t, rfl⟩ := rx
  obtain ⟨t', rfl⟩ := ry
  exact add_str (fun t' tk => ⟨.str (i ++ j), H, I.tok _, ⟨_, rfl⟩, q⟩) hz
theorem vals1 {x : V} {us : List Value} (r : Vals [x] us) : ∃ u, us = [u] ∧ RelV x u := by
  cases r with
  | cons r1 r2 => cases r2; exact ⟨_, rfl, r1⟩
theorem vals2 {x y : V} {us : List Value} (r : Vals [x, y] us) : ∃ u w', us = [u, w'] ∧ RelV x u ∧ RelV y w' := by
  cases r with
  | cons r1 r2 =>
    cases r2 with
    | cons r3 r4 => cases r4; exact ⟨_, _, rfl, r1, r3⟩
theorem call_abs : CallR X (.builtin "abs") (fun xs H Q => ∃ i, xs = [.int i] ∧ Q (.int (if i < 0 then -i else i)) H) := by
  intro pins s σ H xs us Q I r h
  obtain ⟨i, rfl, q⟩ := h
  obtain ⟨u, rfl, t, rfl⟩ := vals1 r
  exact call_abs_int fun u tk => ⟨.int (if i < 0 then -i else i), H, I.tok _, ⟨_, rfl⟩, q⟩
theorem call_min2 (hc : X.calm = true) : CallR X (.builtin "min") (fun xs H Q => ∃ i j, xs = [.int i, .int j] ∧ Q (.int (if j < i then j else i)) H) := by
  intro pins s σ H xs us Q I r h
  obtain ⟨i, j, rfl, q⟩ := h
  obtain ⟨u, w', rfl, ⟨t, rfl⟩, ⟨t', rfl⟩⟩ := vals2 r
  refine min_two_ints (I.ok.hd hc) fun h' tk k => ⟨_, H, I.kept k, ?_, q⟩
  by_cases hj : j < i
  · rw [if_pos hj, if_pos hj]; exact ⟨_, rfl⟩
  · rw [if_neg hj, if_neg hj]; exact ⟨_, rfl⟩
noncomputable def LenV (K : PySem.W.Frag) (x : V) (H : Hp) (n : Nat) : Prop :=
  match x with
  | .str y => y.length ≤ sizeLine ∧ n = y.length
  | .byt y => y.size ≤ sizeLine ∧ n = y.size
  | .ref p => (∃ xs, SqL K H p xs ∧ n = xs.length) ∨ ∃ xs, SqT K H p xs ∧ n = xs.length
  | _ => False
theorem call_len : CallR X (.builtin "len") (fun xs H Q => ∃ x n, xs = [x] ∧ LenV X.K x H n ∧ Q (.int n) H) := by
  intro pins s σ H xs us Q I r h
  obtain ⟨x, n, rfl, e, q⟩ := h
  obtain ⟨u, rfl, rx⟩ := vals1 r
  have hl := line63
  have hs : sizeLine = 16777216 := sizeLine_eq
  cases x with
  | str y =>
    obtain ⟨t, rfl⟩ := rx
    obtain ⟨hy, e'⟩ : y.length ≤ sizeLine ∧ n = y.length := e
    subst e'
    exact len_str (by omega) ⟨.int _, H, I.tok _, ⟨_, rfl⟩, q⟩
  | byt y =>
    obtain ⟨t, rfl⟩ := rx
    obtain ⟨hy, e'⟩ : y.size ≤ sizeLine ∧ n = y.size := e
    subst e'
    exact PySem.W.len_bytes (by omega) ⟨.int _, H, I.tok _, ⟨_, rfl⟩, q⟩
  | ref p =>
    cases rx
    have e' : (∃ xs, SqL X.K H p xs ∧ n = xs.length) ∨ ∃ xs, SqT X.K H p xs ∧ n = xs.length := e
    rcases e' with ⟨xs, hx, e'⟩ | ⟨xs, hx, e'⟩
    · subst e'
      obtain ⟨its, r', pl, hz⟩ := I.list hx
      have hlen := r'.length
      exact Calls.call_len_list pl.isList (by simp only [List.size_toArray]; omega) ⟨.int xs.length, H, I.tok _, ⟨_, by simp only [List.size_toArray]; rw [hlen]⟩, q⟩
    · subst e'
      obtain ⟨its, r', pl, hz⟩ := I.tuple hx
      have hlen := r'.length
      exact len_tuple pl (by simp only [List.size_toArray]; omega) ⟨.int xs.length, H, I.tok _, ⟨_, by simp only [List.size_toArray]; rw [hlen]⟩, q⟩
  | _ => exact (show False from e).elim
end
end L2
namespace L2
open PySem PySem.Spec PyProof.Rows
structure ObjM (h : Heap) (x dx C : Addr) (mA : Str → Option Value) : Prop where
  obj : h.get? x = some (PySem.W.instObj C dx)
  ns : h.Ns1 dx mA
  ne : dx ≠ x
theorem lookIn_ns {h : Heap} {dx : Addr} {mA : Str → Option Value} (n : h.Ns1 dx mA) : ∃ od, h.get? dx = some od ∧ ∀ name, PySem.W.lookIn name od = some (mA name) := by
  obtain ⟨o, es, ep, ho, hd, hk, _, hm⟩ := n
  refine ⟨o, ho, fun name => ?_⟩
  have e := hm name
  unfold nsFind findBy at e
  rw [← Array.find?_toList] at e
  unfold PySem.W.lookIn
  rw [hd]
  dsimp only
  split
  · rename_i y q
    rw [q] at e
    exact congrArg some e
  · rename_i q
    rw [q] at e
    have a : es.toList.any (·.refKey) = false := by
      rw [List.any_eq_false]
      intro y hy
      obtain ⟨z, t, hkey⟩ := hk y (Array.mem_toList_iff.mp hy)
      simp [DictEntry.refKey, hkey]
    have a' : ¬ es.toList.any (·.refKey) = true := by rw [a]; exact Bool.false_ne_true
    rw [if_neg a']
    exact congrArg some e
theorem ObjM.look {h : Heap} {x dx C : Addr} {mA : Str → Option Value} (I : ObjM h x dx C mA) : ∃ od, PySem.W.InstAt h x (PySem.W.instObj C dx) C (some od) ∧ ∀ name, PySem.W.lookIn name od = some (mA name) :=
  let ⟨od, ho, hl⟩ := lookIn_ns I.ns
  ⟨od, ⟨I.obj, rfl, rfl, ho⟩, hl⟩
section
variable {prog : Program} {w : World} {A : Around} {E : Value → Shared → Prop} {s : Shared} {K : PySem.W.Frag} {x dx C f : Addr} {mA : Str → Option Value} {name : Str} {v : Value}
end
theorem RelO.some_of {v : V} {o : Option Value} (r : RelO (some v) o) : ∃ u, o = some u ∧ RelV v u := by
  cases o with
  | none => exact (show False from r).elim
  | some u => exact ⟨u, rfl, r⟩
section
variable {P : Program} {w : World} {H H' : Hp} {h h' : Heap} {a C dx : Addr} {fs fs' : List (Str × V)}
theorem ins_get (hok : HOk P w H h) (e : H a = some (.ins C dx fs)) : ∃ mA, ObjM h a dx C mA ∧ (∀ f, RelO (fs.lookup f) (mA f)) ∧ PySem.Within mA (fs.map (·.1)) ∧ fs.length ≤ 1000 ∧ H dx = some (.own a) := by
  obtain ⟨d, z, ne, ob, mA, n, r, q⟩ := (show ObjOk P w H h a (.ins C dx fs) from hok a _ e)
  exact ⟨mA, ⟨ob, n, ne⟩, r, q, z, d⟩
end
structure Cls (K : PySem.W.Frag) (C : Addr) : Prop where
  pg : PySem.W.plainGet K C Str.empty = true
  hd : PySem.W.hasDictIn K C = true
  po : PySem.W.plainOver K C = true
  sa : PySem.W.findIn K (.ref C) "__setattr__" = some (some (.builtin "object.__setattr__"))
theorem Cls.get {K : PySem.W.Frag} {C : Addr} (c : Cls K C) (f : Str) : PySem.W.plainGet K C f = true := c.pg
section
variable {X : Cx} {pins : List (Addr × Obj)} {σ : St} {H : Hp} {s : Shared} {a C dx : Addr} {fs : List (Str × V)} {f : Str} {v : V} {A : Around} {E : Value → Shared → Prop}
end
section
variable {X : Cx} {o e value : Expr} {f : Str} {pos pos' tpos : Pos} {ta tv : TE}
end
section
variable {X : Cx} {pins : List (Addr × Obj)} {σ : St} {H : Hp} {s : Shared} {A : Around} {E : Value → Shared → Prop} {Q : Value → Shared → Prop} {c : Value} {b : Bool}
inductive TyOf (K : PySem.W.Frag) (H : Hp) : V → Value → Prop where
  | non : TyOf K H .non (.type "NoneType")
  | bl (x : Bool) : TyOf K H (.bl x) (.type "bool")
  | int (i : Int) : TyOf K H (.int i) (.type "int")
  | str (x : Str) : TyOf K H (.str x) (.type "str")
  | flt (x : UInt64) : TyOf K H (.flt x) (.type "float")
  | lst {a : Addr} {xs : List V} (e : H a = some (.lst xs)) : TyOf K H (.ref a) (.type "list")
  | frz {a : Addr} {o : Obj} {xs : List V} (e : H a = some (.frz o (.lst xs))) : TyOf K H (.ref a) (.type "list")
  | tup {a : Addr} {xs : List V} (e : H a = some (.tup xs)) : TyOf K H (.ref a) (.type "tuple")
  | dK {a : Addr} {kvs : List (Key × V)} (e : H a = some (.dK kvs)) : TyOf K H (.ref a) (.type "dict")
  | dT {a : Addr} {kvs : List (List Key × V)} (e : H a = some (.dT kvs)) : TyOf K H (.ref a) (.type "dict")
  | ins {a C dx : Addr} {fs : List (Str × V)} (e : H a = some (.ins C dx fs)) (cl : Cls K C) (ha : PySem.W.findIn K (.ref C) "__class__" = some (some (.builtin "object.__class__")))
      (hn : PySem.W.specialIn K (.builtin "object.__class__") "__get__" = some (some (.builtin "getset_descriptor.__get__"))) (htk : PySem.W.takesIn K (.builtin "object.__class__") = some true)
      (hm : PySem.W.mroIn K C (.type "object") = some true) : TyOf K H (.ref a) (.ref C)
theorem isinst_ok {x : V} {u t : Value} (I : Inv X pins σ H s) (rx : RelV x u) (ty : TyOf X.K H x t) (e : PySem.W.kitOne X.K t c = some b) (h : ∀ tk, Q (.bool b) { s with toks := tk }) :
    wpAny (model X.prog X.w) A (call (.builtin "isinstance") [u, c]) Q E s := by
  cases ty with
  | non => cases (show u = Value.none from rx); exact PySem.W.kia_one PySem.W.kitx_none I.kIn True.intro e (fun z => nomatch z) h
  | bl y => cases (show u = Value.bool y from rx); exact PySem.W.kia_one PySem.W.kitx_bool I.kIn True.intro e (fun z => nomatch z) h
  | int i => obtain ⟨t, q⟩ := (show ∃ t, u = Value.int i t from rx); cases q; exact PySem.W.kia_one PySem.W.kitx_int I.kIn True.intro e (fun z => nomatch z) h
  | str y => obtain ⟨t, q⟩ := (show ∃ t, u = Value.str y t from rx); cases q; exact PySem.W.kia_one PySem.W.kitx_str I.kIn True.intro e (fun z => nomatch z) h
  | flt y => obtain ⟨t, q⟩ := (show ∃ t, u = Value.float y t from rx); cases q; exact PySem.W.kia_one PySem.W.kitx_float I.kIn True.intro e (fun z => nomatch z) h
  | @lst a xs ea =>
    cases (show u = Value.ref a from rx)
    obtain ⟨_, _, n, _, h1⟩ := (show ObjOk X.prog X.w H s.heap a (.lst xs) from I.hok a _ ea)
    exact PySem.W.kia_one PySem.W.kitx_list I.kIn ⟨_, h1, rfl⟩ e (fun z => nomatch z) h
  | @frz a ob xs ea =>
    cases (show u = Value.ref a from rx)
    obtain ⟨_, _, _, n, _, h1⟩ := (show ObjOk X.prog X.w H s.heap a (.frz ob (.lst xs)) from I.hok a _ ea)
    exact PySem.W.kia_one PySem.W.kitx_list I.kIn ⟨_, h1, rfl⟩ e (fun z => nomatch z) h
  | @tup a xs ea =>
    cases (show u = Value.ref a from rx)
    obtain ⟨_, _, _, p⟩ := (show ObjOk X.prog X.w H s.heap a (.tup xs) from I.hok a _ ea)
    obtain ⟨o, h1, h2, _⟩ := p
    exact PySem.W.kia_one PySem.W.kitx_tuple I.kIn ⟨o, h1, h2⟩ e (fun z => nomatch z) h
  | @dK a kvs ea =>
    cases (show u = Value.ref a from rx)
    obtain ⟨_, _, vs, _, p⟩ := (show ObjOk X.prog X.w H s.heap a (.dK kvs) from I.hok a _ ea)
    obtain ⟨o, es, ep, h1, h2, _⟩ := p
    exact PySem.W.kia_one PySem.W.kitx_dict I.kIn ⟨o, h1, h2.1⟩ e (fun z => nomatch z) h
  | @dT a kvs ea =>
    cases (show u = Value.ref a from rx)
    obtain ⟨_, _, xs, _, o, es, ep, h1, h2, _⟩ := (show ObjOk X.prog X.w H s.heap a (.dT kvs) from I.hok a _ ea)
    exact PySem.W.kia_one PySem.W.kitx_dict I.kIn ⟨o, h1, h2.1⟩ e (fun z => nomatch z) h
  | @ins a C dx fs ea cl ha hn htk hm =>
    cases (show u = Value.ref a from rx)
    obtain ⟨mA, O, _⟩ := ins_get I.hok ea
    obtain ⟨od, J, _⟩ := O.look
    exact PySem.W.kia_one (PySem.W.kitx_own (cl.get _) cl.hd ha hn htk hm) I.kIn J e (fun z => nomatch z) h
end
end L2
namespace L2
open PySem PySem.Spec PyProof.Rows
structure Room (k : Nat) (A : Around) : Prop where
  hd : A.handled = none
  dp : A.depth + 3 * k + 5 < recursionLimit
  un : A.units + 16 * k + 200 < cLine
theorem Room.mono {j k : Nat} {A : Around} (r : Room k A) (h : j ≤ k) : Room j A := ⟨r.hd, by have := r.dp; omega, by have := r.un; omega⟩
theorem Room.deeper {k : Nat} {A : Around} (r : Room (k + 1) A) (env : Env) : Room k (A.deeper env) :=
  ⟨r.hd, by have := r.dp; show A.depth + 1 + 3 * k + 5 < _; omega, by have := r.un; show A.units + 3 + 16 * k + 200 < _; omega⟩
theorem Room.depth {k : Nat} {A : Around} (r : Room k A) : A.depth < recursionLimit := by have := r.dp; omega
theorem Room.units {k : Nat} {A : Around} (r : Room k A) : A.units + 64 < cLine := by have := r.un; omega
noncomputable def tNil : TA := fun _ H Q => Q [] H
noncomputable def tCons (ta : TE) (tr : TA) : TA := fun σ H Q => ta σ H fun x H1 => tr σ H1 fun xs H2 => Q (x :: xs) H2
section
variable {X : Cx} {e : Expr} {es : List Expr} {te : TE} {t : TA} {pos : Pos}
theorem pa_nil : PA X [] tNil := fun _ _ _ _ H Q I h => Calls.spliced_nil ⟨[], H, I, .nil, h⟩
theorem pa_cons (ha : PE X e te) (hr : PA X es t) (hs : starEach (e :: es) X.env = (false, eval e X.env) :: starEach es X.env := by rfl) : PA X (e :: es) (tCons te t) := by
  intro pos pins s σ H Q I h
  rw [hs]
  show wpAny _ _ (spliced ((false, eval e X.env) :: backTo pos (starEach es X.env))) _ _ s
  refine Calls.spliced_cons (thn (ha pins s σ H _ I h) fun u s1 ⟨x, H1, I1, r1, q1⟩ => ?_)
  exact thn (hr pos pins s1 σ H1 _ I1 q1) fun us s2 ⟨xs, H2, I2, r2, q2⟩ => ⟨x :: xs, H2, I2, .cons r1 r2, q2⟩
noncomputable def tTup (t : TA) : TE := fun σ H Q => t σ H fun xs H1 => xs.length ≤ sizeLine ∧ ∀ p, H1 p = none → Q (.ref p) (upd H1 p (.tup xs))
noncomputable def tLst (t : TA) : TE := fun σ H Q => t σ H fun xs H1 => xs.length ≤ sizeLine ∧ ∀ p, H1 p = none → Q (.ref p) (upd H1 p (.lst xs))
theorem pe_tup {x1} (h : PA X es t) : PE X (.Tuple es x1 pos) (tTup t) := by
  intro pins s σ H Q I hq
  refine wpAny_Tuple_spliced (thn (h pos pins s σ H _ I hq) fun us s1 ⟨xs, H1, I1, r, z, q⟩ => ⟨by rw [← r.length]; exact z, ?_⟩)
  have hf : H1 s1.heap.objs.size = none := I1.hok.fresh (Nat.le_refl _)
  refine ⟨.ref s1.heap.objs.size, upd H1 s1.heap.objs.size (.tup xs), I1.laid (t' := s1.toks) (fun b u e => Heap.get?_push_of_some _ e) (Nat.le_refl _) ?_, rfl, q _ hf⟩
  exact ⟨z, us, r, ⟨_, Heap.get?_push_size _ rfl, rfl, _, rfl⟩⟩
theorem pe_lst (h : PA X es t) : PE X (.List es pos) (tLst t) := by
  intro pins s σ H Q I hq
  refine wpAny_List_spliced (thn (h pos pins s σ H _ I hq) fun us s1 ⟨xs, H1, I1, r, z, q⟩ => ⟨by rw [← r.length]; exact z, ?_⟩)
  have hf : H1 s1.heap.objs.size = none := I1.hok.fresh (Nat.le_refl _)
  refine ⟨.ref s1.heap.objs.size, upd H1 s1.heap.objs.size (.lst xs), I1.laid (t' := s1.toks) (fun b u e => Heap.get?_push_of_some _ e) (Nat.le_refl _) ?_, rfl, q _ hf⟩
  exact ⟨z, us, 0, r, Heap.get?_push_size _ rfl⟩
end
noncomputable abbrev Sp := List V → Hp → VK → XK → Prop
noncomputable abbrev CXT := List Env → Hp → Shared → XK → Value → Shared → Prop
structure Env0 (P : Program) (w : World) (K : PySem.W.Frag) (mg : Str → Option Value) (base : Heap) (A : Around) (outer : List Env) (s : Shared) (H : Hp) : Prop where
  frames : A.frames = some outer
  mod : Mod K mg base
  bs : ∀ b o, base.get? b = some o → s.heap.get? b = some o ∧ H b = none
  bsz : base.objs.size ≤ s.heap.objs.size
  funs : s.heap.FunFrames base outer
  frf : ∀ b ∈ frs outer, H b = none
  hok : HOk P w H s.heap
  bare : AllBare s.gens
noncomputable def CE (outer : List Env) (P : Program) (w : World) (H : Hp) (s : Shared) (Q : VK) (u : Value) (s' : Shared) : Prop :=
  ∃ v H', s'.os = s.os ∧ AllBare s'.gens ∧ Un (frs outer) [] H H' s.heap s'.heap ∧ HOk P w H' s'.heap ∧ RelV v u ∧ Q v H'
noncomputable def CR (CX : CXT) (outer : List Env) (P : Program) (w : World) (H : Hp) (s : Shared) (Q : VK) (E : XK) (r : Result) (s' : Shared) : Prop :=
  match r with
  | .ok (.ret u) => CE outer P w H s Q u s'
  | .ok _ => False
  | .error e => CX outer H s E e s'
structure FnOk (P : Program) (w : World) (K : PySem.W.Frag) (mg : Str → Option Value) (base : Heap) (CX : CXT) (k : Nat) (f : Addr) (fd : FuncData) (ps : List Str) (sp : Sp) : Prop where
  len : ∀ vs H Q E, sp vs H Q E → vs.length = ps.length
  run : ∀ (A : Around) (outer : List Env) (s : Shared) (H : Hp) (args : Args) (us : List Value) (vs : List V) (Q : VK) (E : XK), Room k A → Env0 P w K mg base A outer s H → BindsTo s fd args (ps.zip us) → Vals vs us → sp vs H Q E →
    codeAny (model P w) A (.call (.ref f) args) (CR CX outer P w H s Q E) s
theorem FnOk.mono {P : Program} {w : World} {K : PySem.W.Frag} {mg : Str → Option Value} {base : Heap} {CX : CXT} {j k : Nat} {f : Addr} {fd : FuncData} {ps : List Str} {sp : Sp} (F : FnOk P w K mg base CX j f fd ps sp) (h : j ≤ k) :
    FnOk P w K mg base CX k f fd ps sp := ⟨F.len, fun A outer s H args us vs Q E hr => F.run A outer s H args us vs Q E (hr.mono h)⟩
section
variable {X : Cx} {pins : List (Addr × Obj)} {σ : St} {H : Hp} {s s' : Shared}
theorem Inv.env0 (I : Inv X pins σ H s) : Env0 X.prog X.w X.K X.mg X.base X.A X.stack s H :=
  ⟨I.ok.frames, I.ok.mod, I.bs, Nat.le_trans I.ok.bsz I.sz, I.stack, I.stkFree, I.hok, I.bare⟩
theorem Inv.after {Q : VK} {u : Value} (I : Inv X pins σ H s) (h : CE X.stack X.prog X.w H s Q u s') : EP X pins σ Q u s' := by
  obtain ⟨v, H', os, bare, un, hok, r, q⟩ := h
  obtain ⟨hh, g, d, t, os'⟩ := s'
  obtain rfl : os' = s.os := os
  exact ⟨v, H', I.call (h' := hh) (g' := g) (d' := d) (t' := t) (ch := []) un hok bare (fun b z => absurd z (by simp)), r, q⟩
end
noncomputable def tCall (sp : Sp) (dvs : List V) (E : XK) (t : TA) : TE := fun σ H Q => t σ H fun vs H1 => sp (vs ++ dvs) H1 Q E
noncomputable def Binds (K : PySem.W.Frag) (fd : FuncData) (ps : List Str) (ds : List Value) : Prop :=
  ∀ (s : Shared) (us : List Value), K.In s.heap → (us ++ ds).length = ps.length → BindsTo s fd ⟨us, []⟩ (ps.zip (us ++ ds))
theorem Binds.all {K : PySem.W.Frag} {fd : FuncData} {ps : List Str} (h : ∀ us : List Value, us.length = ps.length → bindArgs fd ⟨us, []⟩ = pure (ps.zip us)) : Binds K fd ps [] := fun s us _ hl => by
  rw [List.append_nil] at hl ⊢
  exact .of_eq (h us hl)
noncomputable def Passes (CX : CXT) (X : Cx) (E : XK) : Prop := ∀ (pins : List (Addr × Obj)) (σ : St) (H : Hp) (s : Shared) (e : Value) (s' : Shared), Inv X pins σ H s → CX X.stack H s E e s' → X.xe e s'
section
variable {X : Cx} {CX : CXT} {k : Nat} {f C : Addr} {fd : FuncData} {ps : List Str} {sp : Sp} {dvs : List V} {ds : List Value} {E : XK} {x m : Str} {p pos apos : Pos} {e o : Expr} {es : List Expr} {ta : TE} {t : TA}
theorem run_fn {pins : List (Addr × Obj)} {σ : St} {H : Hp} {s : Shared} {Q : VK} {us : List Value} {vs : List V} (F : FnOk X.prog X.w X.K X.mg X.base CX k f fd ps sp) (hr : Room k X.A) (hb : Binds X.K fd ps ds) (hd : Vals dvs ds) (hx : Passes CX X E)
    (I : Inv X pins σ H s) (r : Vals vs us) (h : sp (vs ++ dvs) H Q E) : wpAny (model X.prog X.w) X.A (call (.ref f) us) (EP X pins σ Q) X.xe s := by
  have r2 : Vals (vs ++ dvs) (us ++ ds) := r.append hd
  have hl : (us ++ ds).length = ps.length := by rw [← r2.length]; exact F.len _ _ _ _ h
  refine wpAny_call (codeAny_mono (F.run X.A X.stack s H ⟨us, []⟩ (us ++ ds) (vs ++ dvs) Q E hr I.env0 (hb s us I.kIn hl) r2 h) fun r s' hq => ?_)
  cases r with
  | error e => exact hx pins σ H s e s' I hq
  | ok fl =>
    cases fl with
    | ret u => exact I.after hq
    | next => exact False.elim hq
    | brk => exact False.elim hq
    | cont => exact False.elim hq
theorem pe_call (F : FnOk X.prog X.w X.K X.mg X.base CX k f fd ps sp) (hr : Room k X.A) (hg : Gl X x) (hm : X.mg x = some (.ref f)) (hk : PySem.W.keepIn X.K (.ref f) = true) (hb : Binds X.K fd ps ds) (hd : Vals dvs ds) (hx : Passes CX X E)
    (ha : PA X (e :: es) t) (hdb : (x == ("__debug__" : Str)) = false := by decide) (he : starEach (e :: es) X.env = (false, eval e X.env) :: starEach es X.env := by rfl) (hpl : (backTo pos (starEach es X.env)).any (·.1) = false := by rfl) :
    PE X (.Call (.Name x p) (e :: es) [] pos) (tCall sp dvs E t) := by
  intro pins s σ H Q I h
  refine wpAny_Call_Name_kw (ld_glob I hg hm ?_ hdb)
  refine PySem.W.callWith_K (h₀ := X.base) I.ok.mod.kin hk (thn (ha pos pins s σ H _ I h) fun us s1 ⟨vs, H1, I1, r, q⟩ => ⟨I1.kIn, ?_⟩) he hpl
  exact run_fn F hr hb hd hx I1 r q
end
section
variable {X : Cx} {CX : CXT} {k : Nat} {f C : Addr} {fd : FuncData} {ps ks : List Str} {sp : Sp} {E : XK} {x m : Str} {p pos apos kpos : Pos} {e o : Expr} {es : List Expr} {kws : List Keyword} {te ta : TE} {t tk : TA} {nm : Option Str}
variable {g : List Value → List Value → List Value} {gV : List V → List V → List V}
end
structure FnScope (N P : List Str) (sc : Scope) : Prop where
  kind : sc.kind = .function
  co : sc.isCoroutine = false
  gen : sc.isGenerator = false
  nd : N.Nodup
  pre : N.take P.length = P
  par : ∀ x ∈ P, sc.names.lookup x = some .local ∨ sc.names.lookup x = some .cell
  nofree : ∀ y ∈ sc.names, y.2 ≠ .free
theorem bindL_out {kindOf : Str → Option NameKind} {x : Str} : ∀ {binds : List (Str × Value)} {m : Str → Option Value}, (∀ v, (x, v) ∉ binds) → bindL kindOf binds m x = m x
  | [], _, _ => rfl
  | (n, v) :: r, m, h => by
    unfold bindL
    rw [bindL_out fun w hw => h w (List.mem_cons_of_mem _ hw)]
    split
    · have : x ≠ n := by rintro rfl; exact h v List.mem_cons_self
      simp [this]
    · rfl
theorem bindC_out {kindOf : Str → Option NameKind} {x : Str} : ∀ {binds : List (Str × Value)} {m : Str → Option Value}, (∀ v, (x, v) ∉ binds) → bindC kindOf binds m x = m x
  | [], _, _ => rfl
  | (n, v) :: r, m, h => by
    unfold bindC
    rw [bindC_out fun w hw => h w (List.mem_cons_of_mem _ hw)]
    split
    · rfl
    · have : x ≠ n := by rintro rfl; exact h v List.mem_cons_self
      simp [this]
theorem bindL_get {kindOf : Str → Option NameKind} {x : Str} {v : Value} : ∀ {P : List Str} {vs : List Value} {i : Nat} {m : Str → Option Value}, P.Nodup → P[i]? = some x → vs[i]? = some v → kindOf x = some .local →
    bindL kindOf (P.zip vs) m x = some v
  | [], _, _, _, _, h, _, _ => by simp at h
  | _ :: _, [], _, _, _, _, h, _ => by simp at h
  | p :: P, w :: vs, 0, m, nd, h1, h2, hk => by
    simp at h1 h2; subst h1; subst h2
    show bindL kindOf ((p, w) :: P.zip vs) m p = _
    unfold bindL
    rw [bindL_out fun v hv => (List.nodup_cons.mp nd).1 (List.of_mem_zip hv).1, if_pos hk]
    simp
  | p :: P, w :: vs, i + 1, m, nd, h1, h2, hk => by
    show bindL kindOf ((p, w) :: P.zip vs) m x = _
    unfold bindL
    exact bindL_get (i := i) (List.nodup_cons.mp nd).2 (by simpa using h1) (by simpa using h2) hk
theorem bindC_get {kindOf : Str → Option NameKind} {x : Str} {v : Value} : ∀ {P : List Str} {vs : List Value} {i : Nat} {m : Str → Option Value}, P.Nodup → P[i]? = some x → vs[i]? = some v → kindOf x ≠ some .local →
    bindC kindOf (P.zip vs) m x = some v
  | [], _, _, _, _, h, _, _ => by simp at h
  | _ :: _, [], _, _, _, _, h, _ => by simp at h
  | p :: P, w :: vs, 0, m, nd, h1, h2, hk => by
    simp at h1 h2; subst h1; subst h2
    show bindC kindOf ((p, w) :: P.zip vs) m p = _
    unfold bindC
    rw [bindC_out fun v hv => (List.nodup_cons.mp nd).1 (List.of_mem_zip hv).1, if_neg hk]
    simp
  | p :: P, w :: vs, i + 1, m, nd, h1, h2, hk => by
    show bindC kindOf ((p, w) :: P.zip vs) m x = _
    unfold bindC
    exact bindC_get (i := i) (List.nodup_cons.mp nd).2 (by simpa using h1) (by simpa using h2) hk
noncomputable def start (N : List Str) (vs : List V) : St := vs.map some ++ List.replicate (N.length - vs.length) none
noncomputable def cxOf (CX : CXT) (P : Program) (w : World) (K : PySem.W.Frag) (mg : Str → Option Value) (base : Heap) (N : List Str) (qual : Str) (scope : Scope) (f : Addr) (cd : Value) (A : Around) (outer : List Env) (s : Shared) (H : Hp) (E : XK) : Cx where
  prog := P
  w := w
  K := K
  mg := mg
  base := base
  A := A.deeper (envOfC qual scope s.heap.objs.size f cd)
  N := N
  s₀ := s
  H₀ := H
  env := envOfC qual scope s.heap.objs.size f cd
  outer := outer
  stack := envOfC qual scope s.heap.objs.size f cd :: outer
  ex := []
  calm := true
  fn := fun _ => true
  pn := []
  xe := fun e s' => wpAny (model P w) (A.deeper (envOfC qual scope s.heap.objs.size f cd)) (leaving (envOfC qual scope s.heap.objs.size f cd) e) (fun _ s'' => CX outer H s E e s'') (fun e' s'' => CX outer H s E e' s'') s'
theorem cell_has {sc : Scope} {n : Nat} {x : Str} (h : sc.names.lookup x = some .cell) : ∃ c, (cellsFrom n sc.names []).lookup x = some c := by
  have q := PySem.W.cellsFrom_some sc.names n [] (.inl h)
  exact Option.isSome_iff_exists.mp q
theorem inv_start {CX : CXT} {P : Program} {w : World} {K : PySem.W.Frag} {mg : Str → Option Value} {base : Heap} {N ps : List Str} {qual : Str} {scope : Scope} {f : Addr} {cd : Value} {A : Around} {outer : List Env} {s s1 : Shared} {H : Hp} {E : XK} {us : List Value} {vs : List V}
    (S : FnScope N ps scope) (hd : A.handled = none) (e0 : Env0 P w K mg base A outer s H) (hl : vs.length = ps.length) (r : Vals vs us)
    (x : InCallC s s.heap.objs.size (bindL (envOfC qual scope s.heap.objs.size f cd).kindOf (ps.zip us) fun _ => none) (cellsFrom (s.heap.objs.size + 1) scope.names []) (bindC (envOfC qual scope s.heap.objs.size f cd).kindOf (ps.zip us) fun _ => none) s1) :
    Inv (cxOf CX P w K mg base N qual scope f cd A outer s H E) [] (start N vs) H s1 := by
  have hpl : ps.length ≤ N.length := by have := congrArg List.length S.pre; rw [List.length_take] at this; omega
  obtain ⟨h1, tk, rfl, hk⟩ := x.done
  have noA : ∀ b : Addr, b ∉ (cxOf CX P w K mg base N qual scope f cd A outer s H E).ex := fun b z => absurd (show b ∈ ([] : List Addr) from z) (by simp)
  refine ⟨⟨e0.mod, S.kind, rfl, rfl, Nat.le_refl _, fun y z c h1 h2 => ?_, fun y hy => ?_, fun y c _ h => ?_, fun _ => hd, Around.frames_deeper e0.frames, .inr ⟨rfl, rfl⟩, fun b z => absurd z (noA b), e0.bs, e0.bsz, fun b _ _ => noA b, fun b z => absurd z (noA b), e0.funs, e0.frf⟩,
    rfl, e0.bare, Un.kept hk, ⟨_, x.toInCall.ns, fun i y v h1 h2 h3 => ?_⟩, fun y c h => ⟨_, x.cell y c h⟩, e0.hok.fresh (Nat.le_refl _), fun y c h => ?_, fun p hp => absurd (show p ∈ ([] : List (Addr × Obj)) from hp) (by simp), e0.hok.kept hk, ?_⟩
  · exact name_of_addr x.apart (PySem.mem_of_lookup h1) (PySem.mem_of_lookup h2)
  · have hy : scope.names.lookup y = some .cell ∨ scope.names.lookup y = some .free := hy
    rcases hy with hy | hy
    · exact cell_has hy
    · exact absurd rfl (S.nofree _ (PySem.mem_of_lookup hy))
  · exact Nat.le_of_lt (x.above y c (PySem.mem_of_lookup h))
  · have hi : i < vs.length := by
      unfold start at h2
      by_cases hi : i < vs.length
      · exact hi
      · rw [List.getElem?_append_right (by simpa using hi)] at h2
        rw [List.getElem?_replicate] at h2
        split at h2 <;> cases h2
    have ha : vs[i]? = some v := by
      unfold start at h2
      rw [List.getElem?_append_left (by simpa using hi), List.getElem?_map] at h2
      cases e : vs[i]? with
      | none => rw [e] at h2; cases h2
      | some a => rw [e] at h2; cases h2; rfl
    obtain ⟨u, hu, rv⟩ := r.get ha
    have hp : ps[i]? = some y := by
      rw [← S.pre, List.getElem?_take_of_lt (by omega)]; exact h1
    have ndP : ps.Nodup := by rw [← S.pre]; exact S.nd.sublist (List.take_sublist _ _)
    refine ⟨u, rv, ?_⟩
    rcases S.par y (List.mem_of_getElem? hp) with k | k
    · exact .inl ⟨k, bindL_get ndP hp hu k⟩
    · obtain ⟨c, e⟩ := cell_has (n := s.heap.objs.size + 1) k
      refine .inr ⟨.inl k, c, e, ?_⟩
      have q := x.cell y c e
      rw [bindC_get ndP hp hu (by show scope.names.lookup y ≠ _; rw [k]; decide)] at q
      exact q
  · exact e0.hok.fresh (Nat.le_of_lt (x.above y c (PySem.mem_of_lookup h)))
  · unfold start
    show _ = N.length
    rw [List.length_append, List.length_map, List.length_replicate]
    omega
theorem fn_of {CX : CXT} {P : Program} {w : World} {K : PySem.W.Frag} {mg : Str → Option Value} {base : Heap} {k : Nat} {f : Addr} {name qual : Str} {params : Arguments} {body : List Stmt} {scope : Scope} {dV kV doc pm cdv ct oc : Value} {an od : Option Addr}
    {osl : Array (Option Value)} {N ps : List Str} {sp : Sp} (lk : K.lookup f = some ⟨oc, od, .func (PySem.W.fnOf name qual params body scope dV kV doc pm an cdv ct), osl⟩) (hcd : PySem.W.codeIn K cdv qual = true) (S : FnScope N ps scope)
    (len : ∀ vs H Q E, sp vs H Q E → vs.length = ps.length)
    (hbody : ∀ (A : Around) (outer : List Env) (s : Shared) (H : Hp) (vs : List V) (Q : VK) (E : XK), Room k (A.deeper (envOfC qual scope s.heap.objs.size f cdv)) → sp vs H Q E →
      ∃ t, PSs (cxOf CX P w K mg base N qual scope f cdv A outer s H E) body t ∧ t { nx := fun _ H' => Q .non H', rt := Q } (start N vs) H) :
    FnOk P w K mg base CX (k + 1) f (PySem.W.fnOf name qual params body scope dV kV doc pm an cdv ct) ps sp := by
  refine ⟨len, fun A outer s H args us vs Q E hr e0 hb r hsp => ?_⟩
  have hl := len _ _ _ _ hsp
  have KX : K.In s.heap := e0.mod.kin.keeps fun b o e => (e0.bs b o e).1
  have lim : s.heap.NoLimit := e0.mod.nolimit.keeps fun b o e => (e0.bs b o e).1
  have hkind : ∀ y ∈ ps.zip us, scope.names.lookup y.1 = some .local ∨ (scope.names.lookup y.1 = some .cell ∧ ((cellsFrom (s.heap.objs.size + 1) scope.names []).lookup y.1).isSome = true) := fun ⟨n, v⟩ hy => by
    rcases S.par n (List.of_mem_zip hy).1 with q | q
    · exact .inl q
    · exact .inr ⟨q, PySem.W.cellsFrom_some _ _ _ (.inl q)⟩
  refine codeAny_call_function hr.depth (KX _ _ lk) rfl S.co S.gen rfl (PySem.W.codeRec_of KX hcd) (hb _ _ _ _ ?_)
  refine wpAny_newFunctionEnv_cells S.kind hkind fun env he s1 x => ?_
  subst he
  refine ⟨lim.keeps x.toInCall.keep, codeAny_func ?_⟩
  obtain ⟨t, ht, hq⟩ := hbody A outer s H vs Q E (hr.deeper _) hsp
  have I : Inv (cxOf CX P w K mg base N qual scope f cdv A outer s H E) [] (start N vs) H s1 := inv_start S hr.hd e0 hl r x
  refine wpAny_mono (ht [] s1 (start N vs) H _ I hq) (fun fl s' hs => ?_) fun e s' hs => hs
  have fin : ∀ {σ' : St} {H' : Hp} {v : V} {u : Value}, Inv (cxOf CX P w K mg base N qual scope f cdv A outer s H E) [] σ' H' s' → RelV v u → Q v H' → CE outer P w H s Q u s' :=
    fun {σ' H' v u} J rv q => ⟨v, H', J.os, J.bare, J.base, J.hok, rv, q⟩
  cases fl with
  | ret u =>
    obtain ⟨v, σ', H', J, rv, q⟩ := hs
    exact fin J rv q
  | next =>
    obtain ⟨σ', H', J, q⟩ := hs
    exact fin (v := V.non) (u := Value.none) J rfl q
  | brk =>
    obtain ⟨_, _, _, q⟩ := hs
    exact False.elim q
  | cont =>
    obtain ⟨_, _, _, q⟩ := hs
    exact False.elim q
end L2
namespace L2
open PySem PySem.Spec PyProof.Rows
section
variable {X : Cx} {x : Str} {p pos : Pos} {e : Expr} {es : List Expr} {t : TA} {id T : String} {r : List V → Hp → VK → Prop}
noncomputable def tCB (r : List V → Hp → VK → Prop) (t : TA) : TE := fun σ H Q => t σ H fun vs H1 => r vs H1 Q
theorem pe_callB (hc : CallR X (.builtin id) r) (hg : Gl X x) (hm : X.mg x = none) (hv : bootBuiltins x = some (.builtin id)) (ha : PA X (e :: es) t) (hn : x ≠ "__name__" := by decide) (hdb : (x == ("__debug__" : Str)) = false := by decide)
    (he : starEach (e :: es) X.env = (false, eval e X.env) :: starEach es X.env := by rfl) (hpl : (backTo pos (starEach es X.env)).any (·.1) = false := by rfl) : PE X (.Call (.Name x p) (e :: es) [] pos) (tCB r t) := by
  intro pins s σ H Q I h
  refine wpAny_Call_Name_kw (ld_blt I hg hm hv ?_ hn hdb)
  exact PyProof.Rows.callWith_builtin1 (thn (ha pos pins s σ H _ I h) fun us s1 ⟨vs, H1, I1, r1, q1⟩ => hc pins s1 σ H1 vs us Q I1 r1 q1) he hpl
theorem pe_callTy (hc : CallR X (.type T) r) (hg : Gl X x) (hm : X.mg x = none) (hv : bootBuiltins x = some (.type T)) (ha : PA X (e :: es) t) (hn : x ≠ "__name__" := by decide) (hdb : (x == ("__debug__" : Str)) = false := by decide)
    (he : starEach (e :: es) X.env = (false, eval e X.env) :: starEach es X.env := by rfl) (hpl : (backTo pos (starEach es X.env)).any (·.1) = false := by rfl) : PE X (.Call (.Name x p) (e :: es) [] pos) (tCB r t) := by
  intro pins s σ H Q I h
  refine wpAny_Call_Name_kw (ld_blt I hg hm hv ?_ hn hdb)
  exact PyProof.Rows.callWith_type1 (thn (ha pos pins s σ H _ I h) fun us s1 ⟨vs, H1, I1, r1, q1⟩ => hc pins s1 σ H1 vs us Q I1 r1 q1) he hpl
end
end L2
namespace HT
open PySem PyProof.Rows
section
open PySem.SeqAt
open PySem.AutoSeq1 (wpAny_loadPart')
open PySem.MeetsSeq PySem.MeetsSeq2 PySem.MeetsSeq3
end
section
variable {prog : Program} {w : World} {A : Around} {E : Value → Shared → Prop} {s : Shared}
theorem cat_tup {t b : Addr} {vs ws : List Value} {Q : Value → Shared → Prop} (ht : IsTup s.heap t vs.toArray) (hb : IsTup s.heap b ws.toArray) (hv : vs ≠ [])
    (h1 : ws = [] → Q (.ref t) s) (h2 : ws ≠ [] → Q (.ref s.heap.objs.size) { s with heap := s.heap.push { cls := .type "tuple", data := .seq (vs ++ ws).toArray } })
    (hsz : vs.length + ws.length ≤ sizeLine) : wpAny (model prog w) A (binaryOp .Add (.ref t) (.ref b)) Q E s := by
  obtain ⟨⟨cls, dd, data, sl⟩, ho, hc, n, hd⟩ := id ht
  obtain ⟨⟨cls2, dd2, data2, sl2⟩, ho2, hc2, n2, hd2⟩ := id hb
  simp only at hc hd hc2 hd2
  subst hc hd hc2 hd2
  have e : vs.toArray ++ ws.toArray = (vs ++ ws).toArray := by simp
  by_cases hw : ws = []
  · exact concat_meets ⟨_, ho, rfl⟩ ⟨_, ho2, rfl⟩ noFill_tuple_add seq_tuple_add PySem.F.slot_tuple_add PySem.F.entry_tuple_add (PySem.F.args_tuple_add_2 _ _)
      (tuple_addW1 t b vs.toArray ws.toArray n n2 dd dd2 sl sl2 (by simpa using hv) (by simp [hw])) ⟨ho, ho2, h1 hw⟩
  · refine concat_meets ⟨_, ho, rfl⟩ ⟨_, ho2, rfl⟩ noFill_tuple_add seq_tuple_add PySem.F.slot_tuple_add PySem.F.entry_tuple_add (PySem.F.args_tuple_add_2 _ _)
      (tuple_addW2 t b vs.toArray ws.toArray n n2 dd dd2 sl sl2 (by simpa using hv) (by simpa using hw) (by rw [List.size_toArray, List.size_toArray]; exact hsz)) ⟨ho, ho2, ?_⟩
    rw [e]
    exact h2 hw
noncomputable def sIx (n d : Nat) : Option Int → Nat
  | none => d
  | some v => if v < 0 then (v + (n : Int)).toNat else min v.toNat n
theorem sIx_none (n d : Nat) : sIx n d none = d := rfl
theorem sIx_nat (n d k : Nat) : sIx n d (some (k : Int)) = min k n := by
  show (if (k : Int) < 0 then ((k : Int) + (n : Int)).toNat else min (k : Int).toNat n) = min k n
  rw [if_neg (by omega), Int.toNat_natCast]
theorem sIx_le (n d : Nat) (hd : d ≤ n) (o : Option Int) : sIx n d o ≤ n := by
  cases o with
  | none => exact hd
  | some v =>
    show (if v < 0 then (v + (n : Int)).toNat else min v.toNat n) ≤ n
    by_cases hv : v < 0
    · rw [if_pos hv]; omega
    · rw [if_neg hv]; exact Nat.min_le_right _ _
theorem clip_eq (v : Int) (n d : Nat) : (if v < 0 then max (v + (n : Int)) 0 else min v (n : Int)) = ((sIx n d (some v) : Nat) : Int) := by
  show (if v < 0 then max (v + (n : Int)) 0 else min v (n : Int)) = (((if v < 0 then (v + (n : Int)).toNat else min v.toNat n) : Nat) : Int)
  by_cases hv : v < 0
  · simp only [if_pos hv]; omega
  · simp only [if_neg hv]; omega
theorem adjust_gen (lo hi : Option Int) (n : Nat) : Builtin.Slice.sliceAdjust lo hi 1 (n : Int) = (((sIx n 0 lo : Nat) : Int), ((sIx n n hi : Nat) : Int)) := by
  have h1 : ¬ ((1 : Int) < 0) := by omega
  unfold Builtin.Slice.sliceAdjust
  simp only [h1, if_false]
  refine Prod.ext ?_ ?_
  · cases lo with
    | none => rfl
    | some v => exact clip_eq v n 0
  · cases hi with
    | none => rfl
    | some v => exact clip_eq v n n
theorem places_gen (i j : Nat) : Builtin.Slice.slicePlaces (i : Int) (j : Int) 1 = j - i := by
  unfold Builtin.Slice.slicePlaces
  have h1 : (1 : Int) > 0 := by omega
  simp only [h1, if_true, Int.ediv_one]
  split <;> omega
theorem slicePart_ {v : Value} {o : Option Int} {Q : Option Int → Shared → Prop} (p : IsPart v o) (h : Q o s) : wpAny (model prog w) A (Builtin.Slice.slicePartIndex v) Q E s := by
  cases p with
  | none => exact slicePart_none h
  | int i t => exact slicePart_int h
theorem sliceApplied_gen {sl : Addr} {vl vu : Value} {lo hi : Option Int} {n : Nat} {Q : Int × Int × Nat → Shared → Prop} (hs : s.heap.IsSliceOf sl vl vu .none) (pl : IsPart vl lo) (pu : IsPart vu hi)
    (h : Q (((sIx n 0 lo : Nat) : Int), 1, sIx n n hi - sIx n 0 lo) s) : wpAny (model prog w) A (Builtin.Slice.sliceApplied (.ref sl) (pure (n : Int))) Q E s := by
  obtain ⟨os, hos, hcs, hds⟩ := id hs
  unfold Builtin.Slice.sliceApplied Builtin.Slice.sliceFields
  refine wpAny_bind (wpAny_bind (wpAny_field hos hds (x := vl) rfl (wpAny_bind (wpAny_field hos hds (x := vu) rfl (wpAny_bind (wpAny_field hos hds (x := .none) rfl (wpAny_pure ?_)))))))
  refine wpAny_bind (slicePart_none ?_)
  show wpAny _ _ (if ((1 : Int) == 0) = true then _ else _) _ _ s
  rw [if_neg (by decide)]
  refine wpAny_bind (slicePart_ pl (wpAny_bind (slicePart_ pu (wpAny_bind (wpAny_pure ?_)))))
  show wpAny _ _ (match Builtin.Slice.sliceAdjust lo hi 1 (n : Int) with | (lo, hi) => pure (lo, (1 : Int), Builtin.Slice.slicePlaces lo hi 1)) _ _ s
  rw [adjust_gen lo hi n]
  show wpAny _ _ (pure (((sIx n 0 lo : Nat) : Int), (1 : Int), Builtin.Slice.slicePlaces ((sIx n 0 lo : Nat) : Int) ((sIx n n hi : Nat) : Int) 1)) _ _ s
  rw [places_gen]
  exact wpAny_pure h
theorem pick_gen (xs : Array Value) (i k : Nat) : ((List.range k).filterMap fun (m : Nat) => xs[((i : Int) + (m : Int) * 1).toNat]?).toArray = ((xs.toList.drop i).take k).toArray := by
  have e : (fun (m : Nat) => xs[((i : Int) + (m : Int) * 1).toNat]?) = fun m => xs[i + m]? := by
    funext m
    have : ((i : Int) + (m : Int) * 1).toNat = i + m := by omega
    rw [this]
  rw [e]
  have := pick_run xs i k
  rw [List.filterMap_map] at this
  have e2 : ((fun x => xs[x]?) ∘ fun x => i + x) = fun m => xs[i + m]? := rfl
  rw [e2] at this
  rw [this]
theorem getItem_tuple_cut {t sl : Addr} {items : Array Value} {vl vu : Value} {lo hi : Option Int} {Q : Value → Shared → Prop} (ht : IsTup s.heap t items) (hs : s.heap.IsSliceOf sl vl vu .none) (pl : IsPart vl lo) (pu : IsPart vu hi)
    (hw : ¬ (sIx items.size 0 lo = 0 ∧ sIx items.size items.size hi = items.size))
    (h : Q (.ref s.heap.objs.size) { s with heap := s.heap.push { cls := .type "tuple", data := .seq ((items.toList.drop (sIx items.size 0 lo)).take (sIx items.size items.size hi - sIx items.size 0 lo)).toArray } })
    (hsz : items.size ≤ sizeLine) : wpAny (model prog w) A (getItem (.ref t) (.ref sl)) Q E s := by
  have htake : sizeOk (.seq ((items.toList.drop (sIx items.size 0 lo)).take (sIx items.size items.size hi - sIx items.size 0 lo)).toArray) := by
    show ((items.toList.drop (sIx items.size 0 lo)).take (sIx items.size items.size hi - sIx items.size 0 lo)).toArray.size ≤ sizeLine
    rw [List.size_toArray, List.length_take, List.length_drop, Array.length_toList]
    omega
  have hj : sIx items.size items.size hi ≤ items.size := sIx_le _ _ (Nat.le_refl _) hi
  obtain ⟨os, hos, hcs, hds⟩ := id hs
  have hTs : s.TypeIs (.ref sl) "slice" := ⟨os, hos, hcs⟩
  unfold getItem
  try with_reducible refine wpAny_holding ?_
  first | refine wpAny_bind (wpAny_pure ?_) | skip
  refine wpAny_bind (wpAny_sequenceKey ht.typeIs (by decide) ?_)
  refine wpAny_bind (wpAny_callSpecial?_slot (name := Str.ofString "__getitem__") ht.typeIs PyProof.Rows.slot_tuple_getitem
    (wpAny_call_entry PyProof.Rows.slot_tuple_getitem ht.typeIs entry_tuple_getitem ?_ (args_tuple_getitem _ _)))
  show wpAny _ _ (Builtin.Tuple.tupleItemsOf (.ref t) >>= _) _ _ s
  refine wpAny_bind (tupleItemsOf_ ht ?_)
  refine wpAny_bind (wpAny_typeOf hTs ?_)
  rw [if_pos (by decide)]
  refine wpAny_bind (sliceApplied_gen hs pl pu ?_)
  have hno : ¬ ((((sIx items.size 0 lo : Nat) : Int) == 0 && (1 : Int) == 1 && (sIx items.size items.size hi - sIx items.size 0 lo) == items.size) = true) := by
    intro q
    rw [Bool.and_eq_true, Bool.and_eq_true] at q
    have q1 : ((sIx items.size 0 lo : Nat) : Int) = 0 := eq_of_beq q.1.1
    have q2 : sIx items.size items.size hi - sIx items.size 0 lo = items.size := eq_of_beq q.2
    exact hw ⟨by omega, by omega⟩
  show wpAny _ _ (if (((sIx items.size 0 lo : Nat) : Int) == 0 && (1 : Int) == 1 && (sIx items.size items.size hi - sIx items.size 0 lo) == items.size) = true then _ else _) _ _ s
  rw [if_neg hno, pick_gen]
  first
    | exact wpAny_bind (m := Builtin.Tuple.tupleExact _) (wpAny_newObj_type (wpAny_pure ⟨_, rfl, wpAny_pure h⟩) htake)
    | exact wpAny_bind (m := Builtin.Tuple.tupleExact _) (wpAny_newObj_type (wpAny_bind (wpAny_pure (wpAny_pure ⟨_, rfl, wpAny_pure h⟩))) htake)
    | exact wpAny_bind (wpAny_bind (m := Builtin.Tuple.tupleExact _) (wpAny_newObj_type (wpAny_pure (wpAny_pure ⟨_, rfl, wpAny_pure h⟩)) htake))
    | exact wpAny_bind (wpAny_bind (m := Builtin.Tuple.tupleExact _) (wpAny_newObj_type (wpAny_pure ⟨_, rfl, wpAny_pure h⟩) htake))
end
end HT
namespace L2
open PySem PySem.Spec PyProof.Rows
noncomputable abbrev TO := St → Hp → (Option Int → Hp → Prop) → Prop
noncomputable def PO (X : Cx) (e : Option Expr) (t : TO) : Prop :=
  ∀ (pins : List (Addr × Obj)) (s : Shared) (σ : St) (H : Hp) (Q : Option Int → Hp → Prop), Inv X pins σ H s → t σ H Q →
    wpAny (model X.prog X.w) X.A (evalPart e X.env) (fun u s' => ∃ o H', Inv X pins σ H' s' ∧ IsPart u o ∧ Q o H') X.xe s
noncomputable def tNoPart : TO := fun _ H Q => Q none H
noncomputable def tPart (t : TE) : TO := fun σ H Q => t σ H fun x H1 => ∃ i, x = .int i ∧ Q (some i) H1
section
variable {X : Cx} {e : Expr} {te : TE} {lo hi : Option Expr} {tl th : TO} {pos p2 : Pos}
theorem po_none : PO X none tNoPart := by
  intro pins s σ H Q I h
  rw [evalPart_none]
  exact wpAny_pure ⟨none, H, I, .none, h⟩
theorem po_some (h : PE X e te) : PO X (some e) (tPart te) := by
  intro pins s σ H Q I hw
  rw [evalPart_some]
  refine thn (h pins s σ H _ I hw) fun u s1 ⟨x, H1, I1, r1, q1⟩ => ?_
  obtain ⟨i, rfl, q⟩ := q1
  obtain ⟨t, rfl⟩ := r1
  exact ⟨some i, H1, I1, .int i t, q⟩
noncomputable def SlR (X : Cx) (r : V → Option Int → Option Int → Hp → VK → Prop) : Prop :=
  ∀ (pins : List (Addr × Obj)) (s : Shared) (σ : St) (H : Hp) (x : V) (v vl vu : Value) (lo hi : Option Int) (sl : Addr) (Q : VK), Inv X pins σ H s → RelV x v → s.heap.IsSliceOf sl vl vu .none → IsPart vl lo → IsPart vu hi → r x lo hi H Q →
    ∃ T id, typeLookup (.type T) "__getitem__" = pure (some (.builtin id)) ∧ s.TypeIs v T ∧ wpAny (model X.prog X.w) X.A (getItem v (.ref sl)) (EP X pins σ Q) X.xe s
theorem SlR.or {r r' : V → Option Int → Option Int → Hp → VK → Prop} (h : SlR X r) (h' : SlR X r') : SlR X (fun x lo hi H Q => r x lo hi H Q ∨ r' x lo hi H Q) := by
  intro pins s σ H x v vl vu lo hi sl Q I rx hs pl pu q
  rcases q with q | q
  · exact h pins s σ H x v vl vu lo hi sl Q I rx hs pl pu q
  · exact h' pins s σ H x v vl vu lo hi sl Q I rx hs pl pu q
noncomputable def tSl (r : V → Option Int → Option Int → Hp → VK → Prop) (te : TE) (tl th : TO) : TE := fun σ H Q => te σ H fun x H1 => tl σ H1 fun l H2 => th σ H2 fun u H3 => r x l u H3 Q
theorem pe_slice {r : V → Option Int → Option Int → Hp → VK → Prop} (hr : SlR X r) (he : PE X e te) (hl : PO X lo tl) (hu : PO X hi th) : PE X (.Subscript e (.Slice lo hi none p2) pos) (tSl r te tl th) := by
  intro pins s σ H Q I h
  refine Subscript_ (thn (he pins s σ H _ I h) fun v s1 ⟨x, H1, I1, r1, q1⟩ => ?_)
  refine wpAny_Slice (thn (hl pins s1 σ H1 _ I1 q1) fun vl s2 ⟨l, H2, I2, pl, q2⟩ => thn (hu pins s2 σ H2 _ I2 q2) fun vu s3 ⟨u, H3, I3, pu, q3⟩ => ?_)
  rw [evalPart_none]
  refine wpAny_pure ?_
  have I4 : Inv X pins σ H3 { s3 with heap := s3.heap.push { cls := .type "slice", data := .fields #[vl, vu, .none] } } := I3.kept (t' := s3.toks) fun b ob q => Heap.get?_push_of_some _ q
  obtain ⟨T, id, hT, ht, hg⟩ := hr pins { s3 with heap := s3.heap.push { cls := .type "slice", data := .fields #[vl, vu, .none] } } σ H3 x v vl vu l u s3.heap.objs.size Q I4 r1 (Heap.IsSliceOf.new ..) pl pu q3
  show wpAny (model X.prog X.w) X.A (subscriptTail e (.Slice lo hi none p2) v (.ref s3.heap.objs.size)) (EP X pins σ Q) X.xe { s3 with heap := s3.heap.push { cls := .type "slice", data := .fields #[vl, vu, .none] } }
  exact tail_any (ops := [.ref s3.heap.objs.size, v]) ht hT hg (by with_unfolding_all rfl)
noncomputable def cutV (xs : List V) (lo hi : Option Int) : List V := (xs.drop (HT.sIx xs.length 0 lo)).take (HT.sIx xs.length xs.length hi - HT.sIx xs.length 0 lo)
theorem cutV_length (xs : List V) (lo hi : Option Int) : (cutV xs lo hi).length ≤ xs.length := by
  unfold cutV
  rw [List.length_take, List.length_drop]
  omega
noncomputable def rSlT (K : PySem.W.Frag) : V → Option Int → Option Int → Hp → VK → Prop := fun x lo hi H Q => ∃ a xs, x = .ref a ∧ SqT K H a xs ∧
  ¬ (HT.sIx xs.length 0 lo = 0 ∧ HT.sIx xs.length xs.length hi = xs.length) ∧ ∀ p, H p = none → Q (.ref p) (upd H p (.tup (cutV xs lo hi)))
theorem sl_tup : SlR X (rSlT X.K) := by
  intro pins s σ H x v vl vu lo hi sl Q I rx hs pl pu h
  obtain ⟨a, xs, rfl, hx, hw, q⟩ := h
  cases rx
  obtain ⟨its, r, ht, hz⟩ := I.tuple hx
  have hlen : its.toArray.size = xs.length := by rw [List.size_toArray]; exact r.length.symm
  refine ⟨"tuple", _, PyProof.Rows.slot_tuple_getitem.lookup, ht.typeIs, ?_⟩
  refine HT.getItem_tuple_cut ht hs pl pu (by rw [hlen]; exact hw) ?_ (by rw [hlen]; exact hz)
  rw [hlen]
  refine ⟨.ref s.heap.objs.size, _, I.laid (t' := s.toks) (o := .tup (cutV xs lo hi)) (fun b ob q => Heap.get?_push_of_some _ q) (Nat.le_refl _) ?_, rfl, q _ (I.hok.fresh (Nat.le_refl _))⟩
  exact ⟨Nat.le_trans (cutV_length xs lo hi) hz, _, (r.drop (HT.sIx xs.length 0 lo)).take (HT.sIx xs.length xs.length hi - HT.sIx xs.length 0 lo), IsTup.new _ _⟩
noncomputable def rCatT (K : PySem.W.Frag) : R2 := fun x y H Q => ∃ a b xs ys, x = .ref a ∧ y = .ref b ∧ SqT K H a xs ∧ SqT K H b ys ∧ xs ≠ [] ∧ xs.length + ys.length ≤ sizeLine ∧
  (ys = [] → Q (.ref a) H) ∧ (ys ≠ [] → ∀ p, H p = none → Q (.ref p) (upd H p (.tup (xs ++ ys))))
theorem Vals.nil_iff {xs : List V} {us : List Value} (r : Vals xs us) : us = [] ↔ xs = [] := by
  cases r with
  | nil => simp
  | cons _ _ => simp
theorem op_catT : OpR X (binaryOp .Add) (rCatT X.K) := by
  intro pins s σ H x y v u Q I rx ry h
  obtain ⟨a, b, xs, ys, rfl, rfl, ha, hb, hx, hz, q1, q2⟩ := h
  cases rx
  cases ry
  obtain ⟨its, r1, p1, _⟩ := I.tuple ha
  obtain ⟨its2, r2, p2, _⟩ := I.tuple hb
  refine HT.cat_tup p1 p2 (fun z => hx (r1.nil_iff.mp z)) (fun z => ⟨.ref a, H, I, rfl, q1 (r2.nil_iff.mp z)⟩) (fun z => ?_) (by rw [← r1.length, ← r2.length]; exact hz)
  refine ⟨.ref s.heap.objs.size, _, I.laid (t' := s.toks) (o := .tup (xs ++ ys)) (fun b ob q => Heap.get?_push_of_some _ q) (Nat.le_refl _) ?_, rfl, q2 (fun w => z (r2.nil_iff.mpr w)) _ (I.hok.fresh (Nat.le_refl _))⟩
  exact ⟨by rw [List.length_append]; exact hz, _, r1.append r2, IsTup.new _ _⟩
end
end L2
namespace L2
open PySem PySem.Spec PyProof.Rows
noncomputable def ixN (n : Nat) (i : Int) : Option Nat := if 0 ≤ i then (if i < n then some i.toNat else none) else if -(n : Int) ≤ i then some (i + n).toNat else none
noncomputable def atI {α : Type} (xs : List α) (i : Int) : Option α := (ixN xs.length i).bind fun j => xs[j]?
theorem ixN_seq {n : Nat} {i : Int} {j : Nat} (h : ixN n i = some j) : seqIndex? i n = some j ∧ j < n ∧ -(n : Int) ≤ i ∧ i < n := by
  unfold ixN at h
  by_cases h0 : 0 ≤ i
  · rw [if_pos h0] at h
    by_cases h1 : i < n
    · rw [if_pos h1] at h
      have e : i.toNat = j := Option.some.inj h
      exact ⟨by rw [seqIndex_of h0 h1, e], by omega, by omega, h1⟩
    · rw [if_neg h1] at h; cases h
  · rw [if_neg h0] at h
    by_cases h1 : -(n : Int) ≤ i
    · rw [if_pos h1] at h
      have e : (i + n).toNat = j := Option.some.inj h
      exact ⟨by rw [seqIndex_neg (by omega) h1, e], by omega, h1, by omega⟩
    · rw [if_neg h1] at h; cases h
theorem atI_get {α : Type} {xs : List α} {i : Int} {v : α} (h : atI xs i = some v) : ∃ j, seqIndex? i xs.length = some j ∧ xs[j]? = some v ∧ j < xs.length ∧ -(xs.length : Int) ≤ i ∧ i < xs.length := by
  unfold atI at h
  cases e : ixN xs.length i with
  | none => rw [e] at h; cases h
  | some j =>
    rw [e] at h
    obtain ⟨h1, h2, h3, h4⟩ := ixN_seq e
    exact ⟨j, h1, h, h2, h3, h4⟩
theorem atI_nat {α : Type} {xs : List α} {j : Nat} {v : α} (h : xs[j]? = some v) : atI xs (j : Int) = some v := by
  have hj : j < xs.length := (List.getElem?_eq_some_iff.mp h).1
  have e : ixN xs.length (j : Int) = some j := by
    unfold ixN
    rw [if_pos (by omega), if_pos (by omega)]; simp
  unfold atI; rw [e]; exact h
theorem atI_last {α : Type} (xs : List α) (v : α) : atI (xs ++ [v]) (-1) = some v := by
  have hl : (xs ++ [v]).length = xs.length + 1 := by simp
  have e : ixN (xs ++ [v]).length (-1) = some xs.length := by
    unfold ixN
    rw [hl, if_neg (by decide), if_pos (by omega)]
    congr 1
    omega
  unfold atI
  rw [e]
  show (xs ++ [v])[xs.length]? = some v
  simp
noncomputable def PlainIx (b : Expr) : Prop := ∀ o i, subscripted b false o i = operate [o, i] (getItem o i)
noncomputable def IxR (X : Cx) (r : R2) : Prop :=
  ∀ (value slice : Expr) (pins : List (Addr × Obj)) (s : Shared) (σ : St) (H : Hp) (x y : V) (v u : Value) (Q : VK), Inv X pins σ H s → RelV x v → RelV y u → r x y H Q →
    subscripted slice false v u = operate [v, u] (getItem v u) → wpAny (model X.prog X.w) X.A (subscriptTail value slice v u) (EP X pins σ Q) X.xe s
noncomputable def MtR (X : Cx) (id : String) (r : V → List V → Hp → VK → Prop) : Prop :=
  ∀ (pins : List (Addr × Obj)) (s : Shared) (σ : St) (H : Hp) (x : V) (xs : List V) (v : Value) (us : List Value) (Q : VK), Inv X pins σ H s → RelV x v → Vals xs us → r x xs H Q →
    wpAny (model X.prog X.w) X.A (call (.builtin id) (v :: us)) (EP X pins σ Q) X.xe s
section
variable {X : Cx} {a b : Expr} {ta tb : TE} {pos : Pos}
theorem IxR.or {r r' : R2} (h : IxR X r) (h' : IxR X r') : IxR X (fun x y H Q => r x y H Q ∨ r' x y H Q) := by
  intro value slice pins s σ H x y v u Q I rx ry q hs
  rcases q with q | q
  · exact h value slice pins s σ H x y v u Q I rx ry q hs
  · exact h' value slice pins s σ H x y v u Q I rx ry q hs
theorem pe_ix {r : R2} (hr : IxR X r) (ha : PE X a ta) (hb : PE X b tb) (hs : PlainIx b) : PE X (.Subscript a b pos) (tOp r ta tb) := by
  intro pins s σ H Q I h
  exact Subscript_ (binT ha hb I h fun v u s2 x y H2 I2 rx ry q => hr a b pins s2 σ H2 x y v u Q I2 rx ry q (hs _ _))
noncomputable def rIxL (K : PySem.W.Frag) : R2 := fun x y H Q => ∃ p xs i v, x = .ref p ∧ y = .int i ∧ SqL K H p xs ∧ atI xs i = some v ∧ Q v H
noncomputable def rIxT (K : PySem.W.Frag) : R2 := fun x y H Q => ∃ p xs i v, x = .ref p ∧ y = .int i ∧ SqT K H p xs ∧ atI xs i = some v ∧ Q v H
noncomputable def rIxS : R2 := fun x y H Q => ∃ z i c, x = .str z ∧ y = .int i ∧ z.length ≤ sizeLine ∧ atI z.cps.toList i = some c ∧ Q (.str ⟨#[c]⟩) H
theorem ix_list : IxR X (rIxL X.K) := by
  intro value slice pins s σ H x y v u Q I rx ry h hs
  obtain ⟨p, xs, i, z, rfl, rfl, hq, he, q⟩ := h
  cases rx
  obtain ⟨t, rfl⟩ := ry
  obtain ⟨its, r, pl, hz⟩ := I.list hq
  obtain ⟨j, h1, h2, h3, h4, h5⟩ := atI_get he
  obtain ⟨w, ew, rw'⟩ := r.get h2
  have hl := r.length
  have hn := line63
  have fin : EP X pins σ Q w s := ⟨z, H, I, rw', q⟩
  by_cases h0 : 0 ≤ i
  · have hj : i.toNat = j := by
      rw [seqIndex_of h0 h5] at h1
      exact Option.some.inj h1
    exact item_listR pl.isList h0 (by omega) (by rw [hj]; simpa using ew) fin hs
  · have hj : (i + (its.toArray.size : Int)).toNat = j := by
      rw [seqIndex_neg (by omega) h4] at h1
      rw [List.size_toArray, ← hl]
      exact Option.some.inj h1
    exact subscriptTail_builtinR (x := w) pl.isList.typeIs slot_list_getitem.lookup
      (wpAny_getItem_list_neg (Q := fun r s' => r = w ∧ EP X pins σ Q r s') pl.isList (by omega) (by rw [List.size_toArray] <;> omega) (by omega) (by rw [hj]; simpa using ew) ⟨rfl, fin⟩) hs
theorem ix_tup : IxR X (rIxT X.K) := by
  intro value slice pins s σ H x y v u Q I rx ry h hs
  obtain ⟨p, xs, i, z, rfl, rfl, hq, he, q⟩ := h
  cases rx
  obtain ⟨t, rfl⟩ := ry
  obtain ⟨its, r, pl, hz⟩ := I.tuple hq
  obtain ⟨j, h1, h2, h3, h4, h5⟩ := atI_get he
  obtain ⟨w, ew, rw'⟩ := r.get h2
  have hl := r.length
  have hn := line63
  have fin : EP X pins σ Q w s := ⟨z, H, I, rw', q⟩
  exact subscriptTail_builtinR (x := w) pl.typeIs slot_tuple_getitem.lookup
    (getItem_tuple (j := j) (Q := fun r s' => r = w ∧ EP X pins σ Q r s') pl (by omega) (by omega) (by rw [List.size_toArray, ← hl]; exact h1) (by simpa using ew) ⟨rfl, fin⟩) hs
theorem ix_str : IxR X rIxS := by
  intro value slice pins s σ H x y v u Q I rx ry h hs
  obtain ⟨z, i, c, rfl, rfl, hz, he, q⟩ := h
  obtain ⟨t, rfl⟩ := rx
  obtain ⟨t', rfl⟩ := ry
  obtain ⟨j, h1, h2, h3, h4, h5⟩ := atI_get he
  have hl : z.cps.toList.length = z.length := by simp [Str.length]
  rw [hl] at h1 h4 h5
  have hn := line63
  exact tail_any (typeIs_str s z t) slot_str_getitem.lookup (getItem_str (c := c) (by
    have e1 : decide (i < -(2 ^ 63 : Int)) = false := decide_eq_false (by omega)
    have e2 : decide (i ≥ 2 ^ 63) = false := decide_eq_false (by omega)
    rw [e1, e2, Bool.or_false]) (by rw [h1]; simpa using h2) ⟨.str ⟨#[c]⟩, H, I.tok _, ⟨_, rfl⟩, q⟩) hs
noncomputable def rIx (K : PySem.W.Frag) : R2 := fun x y H Q => rIxL K x y H Q ∨ rIxT K x y H Q ∨ rIxS x y H Q
theorem ix_seq : IxR X (rIx X.K) := ix_list.or (ix_tup.or ix_str)
theorem slice_bounds (lo hi : Option Int) (n : Nat) : (sliceBounds lo hi none n).1 = ((HT.sIx n 0 lo : Nat) : Int) ∧ (sliceBounds lo hi none n).2.1 = ((HT.sIx n n hi : Nat) : Int) ∧ (sliceBounds lo hi none n).2.2 = 1 := by
  refine ⟨?_, ?_, rfl⟩
  · cases lo with
    | none => simp [sliceBounds, HT.sIx]
    | some i =>
      simp only [sliceBounds, HT.sIx, Option.getD_none, show (1 : Int) > 0 by decide, if_true]
      by_cases h : i < 0
      · simp only [h, if_true] <;> omega
      · simp only [h, if_false] <;> omega
  · cases hi with
    | none => simp [sliceBounds, HT.sIx]
    | some i =>
      simp only [sliceBounds, HT.sIx, Option.getD_none, show (1 : Int) > 0 by decide, if_true]
      by_cases h : i < 0
      · simp only [h, if_true] <;> omega
      · simp only [h, if_false] <;> omega
theorem slicePick_cut (its : List Value) (lo hi : Option Int) : slicePick its.toArray lo hi none = ((its.drop (HT.sIx its.length 0 lo)).take (HT.sIx its.length its.length hi - HT.sIx its.length 0 lo)).toArray := by
  obtain ⟨h1, h2, h3⟩ := slice_bounds lo hi its.toArray.size
  unfold slicePick
  rw [h1, h2, h3]
  simp only [sliceRange_one, pick_run, List.size_toArray] <;> rfl
noncomputable def rSlL (K : PySem.W.Frag) : V → Option Int → Option Int → Hp → VK → Prop := fun x lo hi H Q => ∃ a xs, x = .ref a ∧ SqL K H a xs ∧ ∀ p, H p = none → Q (.ref p) (upd H p (.lst (cutV xs lo hi)))
theorem sl_list : SlR X (rSlL X.K) := by
  intro pins s σ H x v vl vu lo hi sl Q I rx hs pl pu h
  obtain ⟨a, xs, rfl, hx, q⟩ := h
  cases rx
  obtain ⟨its, r, ht, hz⟩ := I.list hx
  have hlen := r.length
  refine ⟨"list", _, slot_list_getitem.lookup, ht.isList.typeIs, ?_⟩
  refine wpAny_getItem_list_slice ht.isList hs pl pu .none (by simp) ?_ (by rw [List.size_toArray] <;> omega)
  rw [slicePick_cut, ← hlen]
  refine ⟨.ref s.heap.objs.size, _, I.laid (t' := s.toks) (o := .lst (cutV xs lo hi)) (fun b ob q => Heap.get?_push_of_some _ q) (Nat.le_refl _) ?_, rfl, q _ (I.hok.fresh (Nat.le_refl _))⟩
  exact ⟨Nat.le_trans (cutV_length xs lo hi) hz, _, 0, (r.drop (HT.sIx xs.length 0 lo)).take (HT.sIx xs.length xs.length hi - HT.sIx xs.length 0 lo), Heap.get?_push_size _ rfl⟩
noncomputable def flatV : V → Bool
  | .non => true
  | .bl _ => true
  | .int _ => true
  | .str _ => true
  | _ => false
noncomputable def eqV : V → V → Bool
  | .non, .non => true
  | .bl a, .bl b => a == b
  | .bl a, .int b => (if a then 1 else 0) == b
  | .int a, .bl b => a == (if b then 1 else 0)
  | .int a, .int b => a == b
  | .str a, .str b => a == b
  | _, _ => false
theorem eqAt_V {A : Around} {s : Shared} {y x : V} {u v : Value} (ry : RelV y u) (rx : RelV x v) (fy : flatV y = true) (fx : flatV x = true) : SeqAt.EqAt A s u v (eqV y x) := by
  cases y with
  | non =>
    cases ry
    cases x with
    | non => cases rx; exact SeqAt.EqAt.same _
    | bl b => cases rx; exact SeqAt.EqAt.none_bool b
    | int b => obtain ⟨t, rfl⟩ := rx; exact SeqAt.EqAt.none_int b t
    | str b => obtain ⟨t, rfl⟩ := rx; exact SeqAt.EqAt.none_str b t
    | _ => exact absurd (show false = true from fx) Bool.false_ne_true
  | bl a =>
    cases ry
    cases x with
    | non => cases rx; exact SeqAt.EqAt.bool_none a
    | bl b => cases rx; exact SeqAt.EqAt.bool_bool a b
    | int b => obtain ⟨t, rfl⟩ := rx; exact SeqAt.EqAt.bool_int a b t
    | str b => obtain ⟨t, rfl⟩ := rx; exact SeqAt.EqAt.bool_str a b t
    | _ => exact absurd (show false = true from fx) Bool.false_ne_true
  | int a =>
    obtain ⟨t', rfl⟩ := ry
    cases x with
    | non => cases rx; exact SeqAt.EqAt.int_none a t'
    | bl b => cases rx; exact SeqAt.EqAt.int_bool a t' b
    | int b => obtain ⟨t, rfl⟩ := rx; exact SeqAt.EqAt.int_int a t' b t
    | str b => obtain ⟨t, rfl⟩ := rx; exact SeqAt.EqAt.int_str a t' b t
    | _ => exact absurd (show false = true from fx) Bool.false_ne_true
  | str a =>
    obtain ⟨t', rfl⟩ := ry
    cases x with
    | non => cases rx; exact SeqAt.EqAt.str_none a t'
    | bl b => cases rx; exact SeqAt.EqAt.str_bool a t' b
    | int b => obtain ⟨t, rfl⟩ := rx; exact SeqAt.EqAt.str_int a t' b t
    | str b => obtain ⟨t, rfl⟩ := rx; exact SeqAt.EqAt.str_str a t' b t
    | _ => exact absurd (show false = true from fx) Bool.false_ne_true
  | _ => exact absurd (show false = true from fy) Bool.false_ne_true
noncomputable def eqU (x : V) (u : Value) : Bool := match u with
  | .none => eqV .non x
  | .bool b => eqV (.bl b) x
  | .int i _ => eqV (.int i) x
  | .str z _ => eqV (.str z) x
  | _ => false
theorem eqU_of {x y : V} {u : Value} (r : RelV y u) (f : flatV y = true) : eqU x u = eqV y x := by
  cases y with
  | non => cases r; rfl
  | bl b => cases r; rfl
  | int i => obtain ⟨t, rfl⟩ := r; rfl
  | str z => obtain ⟨t, rfl⟩ := r; rfl
  | _ => exact absurd (show false = true from f) Bool.false_ne_true
theorem any_eqU {x : V} : ∀ {xs : List V} {us : List Value}, Vals xs us → xs.all flatV = true → us.any (eqU x) = xs.any fun y => eqV y x
  | _, _, .nil, _ => rfl
  | y :: xs, u :: us, .cons r t, f => by
    rw [List.all_cons, Bool.and_eq_true] at f
    rw [List.any_cons, List.any_cons, eqU_of r f.1, any_eqU t f.2]
theorem mem_eqAt {A : Around} {s : Shared} {x : V} {v : Value} (rx : RelV x v) (fx : flatV x = true) : ∀ {xs : List V} {us : List Value}, Vals xs us → xs.all flatV = true → ∀ u ∈ us, SeqAt.EqAt A s u v (eqU x u)
  | _, _, .nil, _ => fun u hu => by cases hu
  | y :: xs, u :: us, .cons r t, f => fun u' hu => by
    rw [List.all_cons, Bool.and_eq_true] at f
    rcases List.mem_cons.mp hu with rfl | hu
    · rw [eqU_of r f.1]; exact eqAt_V r rx f.1 fx
    · exact mem_eqAt rx fx t f.2 u' hu
noncomputable def inV (x : V) (xs : List V) : Bool := xs.any fun y => eqV y x
noncomputable def rIn (K : PySem.W.Frag) (neg : Bool) : R2 := fun x y H Q => ∃ p xs, y = .ref p ∧ (SqL K H p xs ∨ SqT K H p xs) ∧ flatV x = true ∧ xs.all flatV = true ∧ Q (.bl (if neg then !inV x xs else inV x xs)) H
theorem op_in_seq : OpR X (compareOp .In) (rIn X.K false) := by
  intro pins s σ H x y v u Q I rx ry h
  obtain ⟨p, xs, rfl, hq, fx, fs, q⟩ := h
  cases ry
  rcases hq with hq | hq
  · obtain ⟨its, r, pl, hz⟩ := I.list hq
    refine SeqAt.in_listAt (eqU x) pl.isList (fun w hw => mem_eqAt rx fx r fs w (by simpa using hw)) ⟨.bl _, H, I, rfl, ?_⟩
    rw [show its.toArray.any (eqU x) = its.any (eqU x) by simp, any_eqU r fs]
    exact q
  · obtain ⟨its, r, pl, hz⟩ := I.tuple hq
    refine SeqAt.in_tupleAt (eqU x) pl (fun w hw => mem_eqAt rx fx r fs w (by simpa using hw)) ⟨.bl _, H, I, rfl, ?_⟩
    rw [show its.toArray.any (eqU x) = its.any (eqU x) by simp, any_eqU r fs]
    exact q
theorem op_notIn_seq : OpR X (compareOp .NotIn) (rIn X.K true) := by
  intro pins s σ H x y v u Q I rx ry h
  obtain ⟨p, xs, rfl, hq, fx, fs, q⟩ := h
  cases ry
  rcases hq with hq | hq
  · obtain ⟨its, r, pl, hz⟩ := I.list hq
    refine SeqAt.notIn_listAt (eqU x) pl.isList (fun w hw => mem_eqAt rx fx r fs w (by simpa using hw)) ⟨.bl _, H, I, rfl, ?_⟩
    rw [show its.toArray.any (eqU x) = its.any (eqU x) by simp, any_eqU r fs]
    exact q
  · obtain ⟨its, r, pl, hz⟩ := I.tuple hq
    refine SeqAt.notIn_tupleAt (eqU x) pl (fun w hw => mem_eqAt rx fx r fs w (by simpa using hw)) ⟨.bl _, H, I, rfl, ?_⟩
    rw [show its.toArray.any (eqU x) = its.any (eqU x) by simp, any_eqU r fs]
    exact q
noncomputable def tyV (K : PySem.W.Frag) (T : String) (x : V) (H : Hp) : Prop := match x with
  | .str _ => T = "str"
  | .int _ => T = "int"
  | .ref p => (T = "list" ∧ ∃ xs, SqL K H p xs) ∨ (T = "tuple" ∧ ∃ o, K.lookup p = some o ∧ o.cls = .type "tuple" ∧ o.dict = none) ∨
      (T = "dict" ∧ ((∃ kvs, H p = some (.dK kvs)) ∨ ∃ kvs, H p = some (.dT kvs))) ∨ (T = "set" ∧ ∃ S n, H p = some (.set S n))
  | _ => False
theorem tyV_is {pins : List (Addr × Obj)} {σ : St} {H : Hp} {s : Shared} {T : String} {x : V} {v : Value} (I : Inv X pins σ H s) (r : RelV x v) (ty : tyV X.K T x H) :
    s.TypeIs v T ∧ ∀ a, v = .ref a → ∃ ob, s.heap.get? a = some ob ∧ ob.dict = none := by
  cases x with
  | str z =>
    obtain ⟨t, rfl⟩ := r
    cases (show T = "str" from ty)
    exact ⟨typeIs_str s z t, fun _ e => nomatch e⟩
  | int i =>
    obtain ⟨t, rfl⟩ := r
    cases (show T = "int" from ty)
    exact ⟨typeIs_int s i t, fun _ e => nomatch e⟩
  | ref p =>
    cases r
    rcases ty with ⟨rfl, xs, hq⟩ | ⟨rfl, o, hk, hc, hd⟩ | ⟨rfl, hk⟩ | ⟨rfl, S, n, hk⟩
    · obtain ⟨its, _, pl, _⟩ := I.list hq
      refine ⟨pl.isList.typeIs, fun a e => ?_⟩
      cases e
      obtain ⟨o, n, e, c, hd, _⟩ := pl
      exact ⟨o, e, hd⟩
    · refine ⟨⟨o, I.kIn p o hk, hc⟩, fun a e => ?_⟩
      cases e
      exact ⟨o, I.kIn _ o hk, hd⟩
    · have z : ∃ o, s.heap.get? p = some o ∧ o.ExactDict := by
        rcases hk with ⟨kvs, hk⟩ | ⟨kvs, hk⟩
        · obtain ⟨_, _, _, _, o, _, _, e, ex, _⟩ := I.hok p _ hk
          exact ⟨o, e, ex⟩
        · obtain ⟨_, _, _, _, o, _, _, e, ex, _⟩ := I.hok p _ hk
          exact ⟨o, e, ex⟩
      obtain ⟨o, e, ex⟩ := z
      refine ⟨⟨o, e, ex.1⟩, fun a e2 => ?_⟩
      cases e2
      exact ⟨o, e, ex.2.1⟩
    · obtain ⟨o, _, _, _, e, ex, _⟩ := I.hok p _ hk
      refine ⟨⟨o, e, ex.1⟩, fun a e2 => ?_⟩
      cases e2
      exact ⟨o, e, ex.2.1⟩
  | _ => exact False.elim ty
noncomputable def tBM (K : PySem.W.Frag) (T : String) (r : V → List V → Hp → VK → Prop) (to : TE) (t : TA) : TE := fun σ H Q => to σ H fun x H1 => tyV K T x H1 ∧ t σ H1 fun xs H2 => r x xs H2 Q
variable {o e : Expr} {es : List Expr} {to : TE} {t : TA} {name : Str} {apos cpos : Pos} {T id : String} {r : V → List V → Hp → VK → Prop}
theorem pe_bm (pa : PlainAttrs T) (slot : Slot T name id) (hty : typeOf (.builtin id) = pure (.type "method_descriptor")) (hm : MtR X id r) (ho : PE X o to) (ha : PA X (e :: es) t)
    (hbase : attributeBase o name X.env (eval o X.env) = eval o X.env := by rfl)
    (hfew : ((backTo cpos (starEach (e :: es) X.env)).all (fun x => !x.1) && (backToKw cpos (keywordEach [] X.env)).all (fun x => x.1.isSome)
      && decide ((e :: es).length + ([] : List Keyword).length + (if ([] : List Keyword).isEmpty then 0 else 1) < 30)) = true := by rfl)
    (hline : (apos.endLine == cpos.line) = true := by rfl) (hs : starEach (e :: es) X.env = (false, eval e X.env) :: starEach es X.env := by rfl) (hplain : (backTo cpos (starEach es X.env)).any (·.1) = false := by rfl) :
    PE X (.Call (.Attribute o name apos) (e :: es) [] cpos) (tBM X.K T r to t) := by
  intro pins s σ H Q I h
  refine wpAny_Call_method_late hbase hfew hline rfl (thn (ho pins s σ H _ I h) fun v s1 ⟨x, H1, I1, r1, ty, q1⟩ => ?_)
  obtain ⟨h1, h2⟩ := tyV_is I1 r1 ty
  refine ⟨T, id, pa, slot, hty, h1, h2, ?_⟩
  have hA := ha cpos pins s1 σ H1 _ I1 q1
  rw [hs] at hA ⊢
  refine Calls.callWith_builtin (by show (false || (backTo cpos (starEach es X.env)).any (·.1)) = false; rw [hplain] <;> rfl) (Calls.evalArgs_plain ?_)
  exact thn hA fun us s2 ⟨vs, H2, I2, r2, q2⟩ => hm pins s2 σ H2 x vs v us Q I2 r1 r2 q2
/- xs.append(e), list.index on a module's tuple .. are MtR facts of 06m -/
end
end L2
namespace L2
open PySem PySem.Spec PyProof.Rows
noncomputable def MtM (X : Cx) (id : String) (r : V → List V → Hp → VK → Prop) : Prop :=
  ∀ (pins : List (Addr × Obj)) (s : Shared) (σ : St) (H : Hp) (x : V) (xs : List V) (v : Value) (us : List Value) (Q : VK), Inv X pins σ H s → RelV x v → Vals xs us → r x xs H Q →
    wpAny (model X.prog X.w) X.A (call (.builtin id) (v :: us)) (EP X pins σ Q) X.xe s
theorem Vals.one : ∀ {x : V} {us : List Value}, Vals [x] us → ∃ u, us = [u] ∧ RelV x u
  := fun h => by cases h with | cons r h => cases h; exact ⟨_, rfl, r⟩
theorem Vals.two : ∀ {x y : V} {us : List Value}, Vals [x, y] us → ∃ u v, us = [u, v] ∧ RelV x u ∧ RelV y v
  := fun h => by cases h with | cons r h => cases h with | cons q h => cases h; exact ⟨_, _, rfl, r, q⟩
theorem Vals.reverse {xs : List V} {us : List Value} (h : Vals xs us) : Vals xs.reverse us.reverse := by
  induction h with
  | nil => exact .nil
  | cons r t ih => rw [List.reverse_cons, List.reverse_cons]; exact Vals.append ih (.cons r .nil)
section
variable {X : Cx} {pins : List (Addr × Obj)} {σ : St} {H : Hp} {s : Shared} {l b : Addr} {xs ys zs : List V}
theorem Inv.lset {its its' : List Value} {n : Nat} {f : Array Value → Array Value} {t' : Nat} (I : Inv X pins σ H s) (hH : H l = some (.lst xs))
    (e : s.heap.get? l = some { cls := .type "list", data := .seq its.toArray n }) (hf : f its.toArray = its'.toArray) (hv : Vals ys its') (hz : ys.length ≤ sizeLine) :
    Inv X pins σ (upd H l (.lst ys)) { s with heap := s.heap.update l (Obj.mapSeq f), toks := t' } := by
  have q := PySem.IsL.update e f
  rw [hf] at q
  refine I.write (x := l) (e := l) (by rw [hH]; exact trivial) (.inl rfl) (fun b' u hb hu => (Heap.get?_update_other s.heap (Obj.mapSeq f) (Ne.symm hb)).trans hu) ⟨_, q⟩ ?_
  exact ⟨hz, its', _, hv, q⟩
theorem Inv.lnew {its : List Value} {t' : Nat} (I : Inv X pins σ H s) (hv : Vals ys its) (hz : ys.length ≤ sizeLine) :
    Inv X pins σ (upd H s.heap.objs.size (.lst ys)) { s with heap := s.heap.push { cls := .type "list", data := .seq its.toArray }, toks := t' } :=
  I.laid (fun _ _ q => Heap.get?_push_of_some _ q) (Nat.le_refl _) ⟨hz, its, 0, hv, Heap.get?_push_size _ rfl⟩
theorem Inv.fresh (I : Inv X pins σ H s) : H s.heap.objs.size = none := I.hok.fresh (Nat.le_refl _)
theorem Inv.lstM (I : Inv X pins σ H s) (hH : H l = some (.lst xs)) : xs.length ≤ sizeLine ∧ ∃ (its : List Value) (n : Nat), Vals xs its ∧ xs.length = its.length ∧ s.heap.get? l = some { cls := .type "list", data := .seq its.toArray n } := by
  obtain ⟨z, its, n, r, e⟩ := I.hok l _ hH
  exact ⟨z, its, n, r, r.length, e⟩
theorem notLongL {n : Nat} (h : n ≤ sizeLine) : Builtin.List.listTooLong n = false := by
  unfold Builtin.List.listTooLong
  exact decide_eq_false (by omega)
end
section
variable {X : Cx}
noncomputable def rAppend : V → List V → Hp → VK → Prop := fun x vs H Q => ∃ l xs y, x = .ref l ∧ vs = [y] ∧ H l = some (.lst xs) ∧ xs.length < sizeLine ∧ Q .non (upd H l (.lst (xs ++ [y])))
theorem mt_append : MtM X "list.append" rAppend := by
  intro pins s σ H x vs v us Q I rx rv h
  obtain ⟨l, xs, y, rfl, rfl, hH, hz, q⟩ := h
  cases rx
  obtain ⟨u, rfl, ru⟩ := rv.one
  obtain ⟨z, its, n, r, hl, e⟩ := I.lstM hH
  refine call_meets F.slot_list_append ⟨_, e, rfl⟩ F.entry_list_append (F.args_list_append_2 _ _) (PySem.list_append l its.toArray n u (by rw [List.size_toArray]; omega)) ⟨e, ?_⟩
  refine ⟨.non, _, I.lset (its' := its ++ [u]) hH e (by simp) (r.append (.cons ru .nil)) ?_, rfl, q⟩
  rw [List.length_append, List.length_singleton]
  omega
noncomputable def rExtend : V → List V → Hp → VK → Prop := fun x vs H Q => ∃ l b xs zs, x = .ref l ∧ vs = [.ref b] ∧ H l = some (.lst xs) ∧ H b = some (.lst zs) ∧ xs.length + zs.length ≤ sizeLine ∧ Q .non (upd H l (.lst (xs ++ zs)))
theorem mt_extend : MtM X "list.extend" rExtend := by
  intro pins s σ H x vs v us Q I rx rv h
  obtain ⟨l, b, xs, zs, rfl, rfl, hH, hB, hz, q⟩ := h
  cases rx
  obtain ⟨u, rfl, ru⟩ := rv.one
  cases ru
  obtain ⟨z, its, n, r, hl, e⟩ := I.lstM hH
  obtain ⟨z2, its2, n2, r2, hl2, e2⟩ := I.lstM hB
  have hsz : its.toArray.size + its2.toArray.size ≤ sizeLine := by rw [List.size_toArray, List.size_toArray]; omega
  have hlong : ¬ (!its.toArray.isEmpty && Builtin.List.listTooLong (its.toArray.size + its2.toArray.size)) = true := by
    rw [notLongL hsz, Bool.and_false]
    exact Bool.false_ne_true
  refine call_meets F.slot_list_extend ⟨_, e, rfl⟩ F.entry_list_extend (F.args_list_extend_2 _ _)
    (AutoSeq1.list_extend_list_list_0 l its.toArray n b its2.toArray n2 hlong (by rw [List.size_toArray]; omega) (by omega)) ⟨e, e2, ?_⟩
  refine ⟨.non, _, I.lset (its' := its ++ its2) hH e (by simp) (r.append r2) ?_, rfl, q⟩
  rw [List.length_append]
  omega
noncomputable def rCat : R2 := fun x y H Q => ∃ l b xs zs, x = .ref l ∧ y = .ref b ∧ H l = some (.lst xs) ∧ H b = some (.lst zs) ∧ xs.length + zs.length ≤ sizeLine ∧ ∀ p, H p = none → Q (.ref p) (upd H p (.lst (xs ++ zs)))
theorem op_cat : OpR X (binaryOp .Add) rCat := by
  intro pins s σ H x y v u Q I rx ry h
  obtain ⟨l, b, xs, zs, rfl, rfl, hH, hB, hz, q⟩ := h
  cases rx
  cases ry
  obtain ⟨z, its, n, r, hl, e⟩ := I.lstM hH
  obtain ⟨z2, its2, n2, r2, hl2, e2⟩ := I.lstM hB
  refine PySem.P.add_list e e2 ?_ (by rw [List.size_toArray, List.size_toArray]; omega)
  have ea : its.toArray ++ its2.toArray = (its ++ its2).toArray := by simp
  rw [ea]
  exact ⟨.ref _, _, I.lnew (t' := s.toks) (r.append r2) (by rw [List.length_append]; omega), rfl, q _ I.fresh⟩
end
section
variable {prog : Program} {w : World} {A : Around} {E : Value → Shared → Prop} {s : Shared}
end
section
variable {X : Cx}
end
end L2
namespace Att
open PySem PySem.W PySem.Calls PyProof.Rows
theorem ints_of_wellAll {P : Params} {h : Heap} : ∀ (ns : List Int) (vs : List Value), WellAll P h vs (ns.map WData.int) → IntsAre vs ns := by
  intro ns
  induction ns with
  | nil =>
    intro vs w
    rw [List.map_nil] at w
    cases w
    exact .nil
  | cons n ns ih =>
    intro vs w
    rw [List.map_cons] at w
    cases w with
    | cons a b =>
      cases a
      exact .cons _ _ (ih _ b)
theorem script_of {l : OpenLaw} {n : Nat} (hn : l.most = some n) {P : Params} {h : Heap} {args : List WData} {vals : List Value}
    (hpre : l.row.toRowW.claim.pre args = true) (hwl : WellAll P h vals args) :
    ∃ a vs ns, vals = [Value.ref a] ∧ args = [WData.list (ns.map WData.int)] ∧ h.get? a = some { cls := .type "list", data := .seq vs.toArray } ∧ IntsAre vs ns ∧ ns.length ≤ n := by
  have hsh : WShape.hasAll [] args [.list .int] = true := (pre_splitW hpre).1
  have hc : l.pre.holds [] { args := args } = true := (pre_splitW hpre).2
  obtain ⟨d, r, rfl, h1, h2⟩ := hasAllW_cons hsh
  obtain rfl := hasAllW_nil h2
  obtain ⟨xs, rfl, h3⟩ := hasW_list h1
  obtain ⟨ns, rfl⟩ := items_int h3
  have hlen : ns.length ≤ n := by
    unfold OpenLaw.pre at hc
    have h4 : (WTm.not (.lt (.lit (.int (n : Int))) (.len (.arg 0)))).holds [] { args := [.list (ns.map .int)] } = true := by
      have h4 := (holds_andW hc).1
      rw [hn] at h4
      exact h4
    have h5 := condW_of h4 (w_not (w_lt w_lit (w_len_list (w_arg rfl))))
    rw [List.length_map] at h5
    refine Nat.le_of_not_lt fun q => ?_
    have q' : (n : Int) < ((ns.length : Nat) : Int) := by omega
    first
      | (rw [decide_eq_true q'] at h5; exact absurd h5 (by decide))
      | (simp at h5; omega)
  cases hwl with
  | cons w1 w2 =>
    cases w2
    cases w1 with
    | list ho hall => exact ⟨_, _, ns, rfl, rfl, ho, ints_of_wellAll ns _ hall, hlen⟩
theorem post_true (l : OpenLaw) (args : List WData) : l.row.toRowW.claim.post args (.bool true) args = true :=
  postW_of (r := l.row.toRowW) (X := (true == true))
    (show WShape.has [] (.bool true) .bool = true by first | rfl | decide | simp [WShape.has, WShape.arms, WShape.armsAll])
    (show (WTm.eq .res (.lit (.bool true))).value [] { args := args, res := some (.bool true), after := args } = some (.bool (true == true)) from w_eq_bool (w_res rfl) w_lit) rfl
theorem attach_call {l : OpenLaw} {n : Nat} {q : Program} {loose : List Str} {XP : (Str → Option Value) → Heap → Prop} {YP : World → Heap → Prop} {d : DefRec}
    (hn : l.most = some n) (hdf : d.params.defaults = [])
    (call : ∀ (w : World) (s₀ s₁ : Shared) (mg mb : Str → Option Value) (fa : Addr) (o : Obj) (pm cd doc : Value) (a : Addr) (vs : List Value) (ns : List Int),
      Ground q loose [] XP w s₀ mg mb s₁.heap → YP w s₁.heap →
      s₁.heap.get? fa = some o → o.data = .func (docDef d.name d.params d.body d.scope pm cd doc) → s₁.heap.CodeRec cd d.name → mg d.name = some (.ref fa) →
      s₁.heap.get? a = some { cls := .type "list", data := .seq vs.toArray } → IntsAre vs ns → ns.length ≤ n → s₁.gens = #[] →
      codeAny (model l.prog w) callerA (.call (.ref fa) ⟨[.ref a], []⟩) (fun r s' => r = .ok (.ret (.bool true)) ∧ OldK s₁.heap s'.heap ∧ s'.os = s₁.os ∧ AllBare s'.gens) s₁) :
    WalkO q loose XP YP l.row.toRowW d [] (fun f vs => PySem.call f vs) := by
  intro w s₀ s₁ mg mb G Y fa o pm cd doc dV kV ho hd hcd hD hmg hg args vals as hpre hlay hrd hwl hlo
  obtain rfl : dV = .none := Dflts.none hD hdf
  obtain rfl : kV = .none := Dflts.noKw hD
  obtain ⟨a, vs, ns, rfl, rfl, hobj, hints, hlen⟩ := script_of hn hpre hwl
  refine enter_call (codeAny_mono (call w s₀ s₁ mg mb fa o pm cd doc a vs ns G Y ho (fd_plain hd) hcd hmg hobj hints hlen hg) fun r s' hq => ?_)
  obtain ⟨rfl, h2, h3, h4⟩ := hq
  exact ⟨.inl ⟨.bool true, .bool true, [], rfl, fun _ => rfl, .bool true, post_true l _, fun _ => ⟨List.Pairwise.nil, fun _ hm => (nomatch hm)⟩⟩, h2, h3, h4⟩
section
variable {prog : Program} {w : World} {A : Around} {E : Value → Shared → Prop} {s : Shared} {K : Frag}
end
end Att
namespace L2
open PySem PySem.Spec PyProof.Rows
theorem vals_ints : ∀ {vs : List Value} {ns : List Int}, IntsAre vs ns → Vals (ns.map V.int) vs
  | _, _, .nil => .nil
  | _, _, .cons n t h => .cons ⟨t, rfl⟩ (vals_ints h)
noncomputable def Only (H : Hp) : Prop := ∀ b, H b = none ∨ ∃ o xs, H b = some (.frz o (.lst xs))
theorem law_call {P : Program} {w : World} {K : PySem.W.Frag} {mg mb : Str → Option Value} {CX : CXT} {k : Nat} {fa a : Addr} {fd : FuncData} {x : Str} {sp : Sp} {s₁ : Shared} {vs : List Value} {ns : List Int}
    (KX : K.In s₁.heap) (hns : s₁.heap.Ns mainGlobals mg) (hb : s₁.heap.Ns builtinsNs mb) (hbb : ∀ x : Str, x ≠ "__name__" → mb x = bootBuiltins x) (hlim : s₁.heap.NoLimit) (hg : s₁.gens = #[])
    (ha : s₁.heap.get? a = some { cls := .type "list", data := .seq vs.toArray }) (hi : IntsAre vs ns) (hl : ns.length ≤ sizeLine) (hr : Room k callerA)
    (F : ∀ base : Heap, K.In base → base.Ns mainGlobals mg → FnOk P w K mg base CX k fa fd [x] sp) (hbind : ∀ (s : Shared) (u : Value), BindsTo s fd ⟨[u], []⟩ [(x, u)])
    (hsp : ∀ H : Hp, Only H → SqL K H a (ns.map V.int) → sp [.ref a] H (fun v _ => v = .bl true) fun _ _ _ => False)
    (hCX : ∀ H e s', CX [] H s₁ (fun _ _ _ => False) e s' → False) :
    codeAny (model P w) callerA (.call (.ref fa) ⟨[.ref a], []⟩) (fun r s' => r = .ok (.ret (.bool true)) ∧ OldK s₁.heap s'.heap ∧ s'.os = s₁.os ∧ AllBare s'.gens) s₁ := by
  have rv := vals_ints hi
  have lenV := hi.length
  -- from an abstract heap in which nothing but the script may be tracked
  have core : ∀ H : Hp, Only H → SqL K H a (ns.map V.int) → HOk P w H s₁.heap → (∀ b, H b ≠ none → b = a) → (H a ≠ none → K.lookup a = none) →
      codeAny (model P w) callerA (.call (.ref fa) ⟨[.ref a], []⟩) (fun r s' => r = .ok (.ret (.bool true)) ∧ OldK s₁.heap s'.heap ∧ s'.os = s₁.os ∧ AllBare s'.gens) s₁ := by
    intro H hO hS hok hA hK
    have base_of : ∀ {b : Addr} {o : Obj}, s₁.heap.get? b = some o → H b = none → (hidT s₁.heap H).get? b = some o := fun e n => hidT_get e n
    have noA : ∀ {b : Addr} {o : Obj} {es : Array DictEntry} {ep : Nat}, s₁.heap.get? b = some o → o.data = .dict es ep → H b = none := fun {b o es ep} e d => by
      cases q : H b with
      | none => rfl
      | some u =>
        have e' : b = a := hA b (by rw [q]; simp)
        subst e'
        rw [ha] at e; cases e
        have d' : Data.seq vs.toArray _ = Data.dict es ep := d
        cases d'
    have nsK : ∀ {b : Addr} {m : Str → Option Value}, s₁.heap.Ns b m → (hidT s₁.heap H).Ns b m := fun {b m} ⟨o, es, ep, e, d, r⟩ => ⟨o, es, ep, base_of e (noA e d), d, r⟩
    have hKb : K.In (hidT s₁.heap H) := fun b o e => base_of (KX b o e) (by
      cases q : H b with
      | none => rfl
      | some u =>
        have e' : b = a := hA b (by rw [q]; simp)
        subst e'
        rw [hK (by rw [q]; simp)] at e; cases e)
    have hM : Mod K mg (hidT s₁.heap H) := ⟨hKb, nsK hns, ⟨mb, nsK hb, hbb⟩, let ⟨mc, h1, h2⟩ := hlim; ⟨mc, nsK h1, h2⟩⟩
    have e0 : Env0 P w K mg (hidT s₁.heap H) callerA [] s₁ H := ⟨rfl, hM, fun b o e => of_hidT e, Nat.le_of_eq (hidT_size _ _), trivial, fun b hb => absurd (show b ∈ ([] : List Addr) from hb) (by simp), hok, .of_eq hg⟩
    refine codeAny_mono ((F _ hKb (nsK hns)).run callerA [] s₁ H ⟨[.ref a], []⟩ [.ref a] [.ref a] _ _ hr e0 (hbind s₁ (.ref a)) (.cons rfl .nil) (hsp H hO hS)) fun r s' h => ?_
    cases r with
    | error e => exact (hCX H e s' h).elim
    | ok fl =>
      cases fl with
      | next => exact False.elim h
      | brk => exact False.elim h
      | cont => exact False.elim h
      | ret u =>
        obtain ⟨v, H', os, bare, un, hok', r', q⟩ := h
        have q' : v = .bl true := q
        subst q'
        obtain rfl : u = Value.bool true := r'
        refine ⟨rfl, OldK.of_keep fun b o e => ?_, os, bare⟩
        cases q : H b with
        | none => exact un.keep b o e q (by intro z; exact absurd (show b ∈ ([] : List Addr) from z) (by simp)) (by simp)
        | some u =>
          rcases hO b with z | ⟨ob, xs, z⟩
          · rw [q] at z; cases z
          · have z2 := un.frzs b ob _ z
            obtain ⟨e1, _⟩ := hok b _ z
            obtain ⟨e2, _⟩ := hok' b _ z2
            rw [e] at e1; cases e1
            exact e2
  cases hk : K.lookup a with
  | some o =>
    -- the script is one of the module's own objects
    have e := KX a o hk
    rw [ha] at e
    cases e
    refine core (fun _ => none) (fun _ => .inl rfl) (.inr ⟨_, vs.toArray, _, hk, rfl, rfl, rfl, by rw [List.size_toArray, lenV]; exact hl, by simpa using rv⟩) (fun b u z => by have z' : (none : Option HO) = some u := z; cases z') (fun b z => absurd rfl z) fun z => absurd rfl z
  | none =>
    refine core (fun b => if b = a then some (.frz { cls := .type "list", data := .seq vs.toArray } (.lst (ns.map V.int))) else none) (fun b => ?_) (.inl (.inr ⟨{ cls := .type "list", data := .seq vs.toArray }, if_pos rfl⟩)) (fun b u z => ?_) (fun b z => ?_) fun _ => hk
    · by_cases hb : b = a
      · exact .inr ⟨_, _, if_pos hb⟩
      · exact .inl (if_neg hb)
    · by_cases hb : b = a
      · have z' := (if_pos hb).symm.trans z
        cases z'
        subst hb
        exact ⟨ha, by rw [List.length_map]; exact hl, vs, _, rv, ha⟩
      · have z' := (if_neg hb).symm.trans z
        cases z'
    · by_cases hb : b = a
      · exact hb
      · exact absurd (if_neg hb) z
end L2
namespace L2
open PySem PySem.Spec PyProof.Rows
theorem walk_of {l : PySem.W.OpenLaw} {n k : Nat} {q : Program} {loose : List Str} {XP : (Str → Option Value) → Heap → Prop} {YP : World → Heap → Prop} {d : DefRec} {K : Params → PySem.W.Frag} {CX : World → CXT} {sp : World → Sp} {x : Str}
    (hn : l.most = some n) (hn2 : n ≤ sizeLine) (hdf : d.params.defaults = []) (hr : Room k callerA)
    (hY : ∀ (w : World) (h : Heap), YP w h → (K w.params).In h)
    (F : ∀ (w : World) (mg : Str → Option Value) (fa : Addr) (h : Heap), (K w.params).In h → h.Ns mainGlobals mg → mg d.name = some (.ref fa) →
      ∃ fd : FuncData, (∀ (s : Shared) (u : Value), BindsTo s fd ⟨[u], []⟩ [(x, u)]) ∧
        ∀ base : Heap, (K w.params).In base → base.Ns mainGlobals mg → FnOk l.prog w (K w.params) mg base (CX w) k fa fd [x] (sp w))
    (hsp : ∀ (w : World) (H : Hp) (a : Addr) (ns : List Int), ns.length ≤ n → Only H → SqL (K w.params) H a (ns.map V.int) → sp w [.ref a] H (fun v _ => v = .bl true) fun _ _ _ => False)
    (hCX : ∀ (w : World) (H : Hp) (s : Shared) (e : Value) (s' : Shared), CX w [] H s (fun _ _ _ => False) e s' → False) :
    PySem.W.WalkO q loose XP YP l.row.toRowW d [] (fun f vs => PySem.call f vs) := by
  refine Att.attach_call hn hdf fun w s₀ s₁ mg mb fa o pm cd doc a vs ns G Y ho hd hcd hmg hobj hints hlen hg => ?_
  have KX := hY w _ Y
  obtain ⟨fd, hb, hF⟩ := F w mg fa _ KX G.T.g hmg
  exact law_call KX G.T.g G.T.b G.T.builtins G.T.nolimit hg hobj hints (Nat.le_trans hlen hn2) hr hF hb (fun H hO hS => hsp w H a ns hlen hO hS) fun H e s' => hCX w H s₁ e s'
end L2
/- THE LAST THEOREM (shape; LID, My.* are yours):
   My.Adr: a structure of the addresses that your layer names (classes, functions); My.Txt K t: a structure (Prop) of the equations over K;
   My.txt_mk : {K} {implicit addresses ..} (e1 : nsIn K mainGlobals "law" = some (some (.ref f))) (e2 : K.lookup f = some ⟨oc, od, .func (fnOf "law" "law" params body scope dV kV doc pm an cdv ct), sl⟩) (e3 : codeIn K cdv "law" = true) .. : ∃ t, My.Txt K t
(the tactic k_is has no namespace: write k_is) -/
namespace L2
open PySem PySem.Spec PyProof.Rows
noncomputable def defArgs (s : Stmt) : Arguments := match s with
  | .FunctionDef _ a _ _ _ _ _ _ _ _ => a
  | _ => { posonlyargs := [], args := [], vararg := none, kwonlyargs := [], kw_defaults := [], kwarg := none, defaults := [] }
noncomputable def defBody (s : Stmt) : List Stmt := match s with
  | .FunctionDef _ _ b _ _ _ _ _ _ _ => b
  | _ => []
noncomputable def defScope (s : Stmt) : Scope := match s with
  | .FunctionDef _ _ _ _ _ _ sc _ _ _ => sc
  | _ => { kind := .function, names := [], isGenerator := false, isCoroutine := false }
noncomputable abbrev CX0 : CXT := fun _ _ _ _ _ _ => False
noncomputable abbrev E0 : XK := fun _ _ _ => False
theorem pass0 {X : Cx} : Passes CX0 X E0 := fun _ _ _ _ _ _ _ h => h.elim
structure Fun (K : PySem.W.Frag) (x qual : Str) (st : Stmt) (f : Addr) (fd : FuncData) : Prop where
  ex : ∃ (oc : Value) (od : Option Addr) (kV doc pm : Value) (an : Option Addr) (cdv ct : Value) (osl : Array (Option Value)),
    fd = PySem.W.fnOf x qual (defArgs st) (defBody st) (defScope st) .none kV doc pm an cdv ct ∧ K.lookup f = some ⟨oc, od, .func fd, osl⟩ ∧ PySem.W.codeIn K cdv qual = true
  kp : PySem.W.keepIn K (.ref f) = true
section
variable {P : Program} {w : World} {K : PySem.W.Frag} {mg : Str → Option Value} {base : Heap}
theorem Fun.ok {x qual : Str} {st : Stmt} {f : Addr} {fd : FuncData} {N ps : List Str} {k : Nat} {sp : Sp} (F : Fun K x qual st f fd) (S : FnScope N ps (defScope st)) (len : ∀ vs H Q E, sp vs H Q E → vs.length = ps.length)
    (hbody : ∀ (cdv : Value) (A : Around) (outer : List Env) (s : Shared) (H : Hp) (vs : List V) (Q : VK) (E : XK), Room k (A.deeper (envOfC qual (defScope st) s.heap.objs.size f cdv)) → sp vs H Q E →
      ∃ t, PSs (cxOf CX0 P w K mg base N qual (defScope st) f cdv A outer s H E).nox (defBody st) t ∧ t { nx := fun _ H' => Q .non H', rt := Q } (start N vs) H) : FnOk P w K mg base CX0 (k + 1) f fd ps sp := by
  obtain ⟨oc, od, kV, doc, pm, an, cdv, ct, osl, rfl, lk, hcd⟩ := F.ex
  refine fn_of lk hcd S len fun A outer s H vs Q E hr hsp => ?_
  obtain ⟨t, h, q⟩ := hbody cdv A outer s H vs Q E hr hsp
  exact ⟨t, h.nox, q⟩
theorem fun_mk {x qual : Str} {st : Stmt} {f : Addr} {oc : Value} {od an : Option Addr} {osl : Array (Option Value)} {kV doc pm cdv ct : Value} (l : K.lookup f = some ⟨oc, od, .func (PySem.W.fnOf x qual (defArgs st) (defBody st) (defScope st) .none kV doc pm an cdv ct), osl⟩)
    (c : PySem.W.codeIn K cdv qual = true) (k : PySem.W.keepIn K (.ref f) = true) : Fun K x qual st f (PySem.W.fnOf x qual (defArgs st) (defBody st) (defScope st) .none kV doc pm an cdv ct) := ⟨⟨oc, od, kV, doc, pm, an, cdv, ct, osl, rfl, l, c⟩, k⟩
end
theorem small1000 {n : Nat} (h : n ≤ 1000) : n < sizeLine := Nat.lt_of_le_of_lt h (by decide)
section
variable {X : Cx}
theorem pv (i : Nat) {x : Str} {pos : Pos} (hN : X.N[i]? = some x := by rfl) (hv : Vis X.env.scope x := by first | exact Or.inl rfl | exact Or.inr (Or.inl rfl) | exact Or.inr (Or.inr rfl)) (hd : (x == ("__debug__" : Str)) = false := by decide)
    (hcd : (x == ("__classdict__" : Str)) = false := by decide) : PE X (.Name x pos) (tVar i) := pe_var hN hv hd hcd
end
theorem iteF {A B : Prop} (h : B) : if false = true then A else B := by
  rw [if_neg Bool.false_ne_true]
  exact h
theorem iteT {A B : Prop} (h : A) : if true = true then A else B := by
  rw [if_pos rfl]
  exact h
noncomputable def Same (H H' : Hp) : Prop := ∀ b o, H b = some o → H' b = some o
theorem Same.refl (H : Hp) : Same H H := fun _ _ h => h
theorem Same.trans {H H1 H2 : Hp} (a : Same H H1) (b : Same H1 H2) : Same H H2 := fun c o h => b c o (a c o h)
theorem Same.free {H H' : Hp} (e : Same H H') {l : Addr} (h : H' l = Option.none) : H l = Option.none := by
  cases q : H l with
  | none => rfl
  | some o =>
    rw [e l o q] at h
    cases h
theorem Same.seq {K : PySem.W.Frag} {H H' : Hp} {a : Addr} {xs : List V} (e : Same H H') (h : SqL K H a xs) : SqL K H' a xs := by
  rcases h with (h | ⟨o, h⟩) | h
  · exact .inl (.inl (e _ _ h))
  · exact .inl (.inr ⟨o, e _ _ h⟩)
  · exact .inr h
end L2
namespace L2
open PySem PySem.Spec PyProof.Rows
section
variable {κ : Type} [DecidableEq κ]
noncomputable def valV (kvs : List (κ × V)) (k : κ) : Option V := (kvs.find? fun kv => decide (kv.1 = k)).map (·.2)
noncomputable def putK (kvs : List (κ × V)) (k : κ) (v : V) : List (κ × V) :=
  if (kvs.any fun kv => decide (kv.1 = k)) = true then kvs.map (fun kv => if kv.1 = k then (kv.1, v) else kv) else kvs ++ [(k, v)]
theorem valV_pos {p : κ × V} {r : List (κ × V)} {k : κ} (e : p.1 = k) : valV (p :: r) k = some p.2 := by simp [valV, List.find?_cons, e]
theorem valV_neg {p : κ × V} {r : List (κ × V)} {k : κ} (e : ¬ p.1 = k) : valV (p :: r) k = valV r k := by simp [valV, List.find?_cons, e]
theorem valV_any (k : κ) : ∀ kvs : List (κ × V), (kvs.any fun kv => decide (kv.1 = k)) = (valV kvs k).isSome
  | [] => rfl
  | p :: r => by
    rw [List.any_cons]
    by_cases e : p.1 = k
    · simp only [valV_pos e, decide_eq_true e, Bool.true_or, Option.isSome_some]
    · rw [valV_neg e, decide_eq_false e, Bool.false_or]; exact valV_any k r
theorem length_putK (kvs : List (κ × V)) (k : κ) (v : V) : (putK kvs k v).length ≤ kvs.length + 1 := by
  unfold putK
  split
  · rw [List.length_map]; omega
  · rw [List.length_append, List.length_cons, List.length_nil]; omega
theorem RelO.isSome_eq {o : Option V} {u : Option Value} (r : RelO o u) : o.isSome = u.isSome := by
  cases o with
  | none => cases u with
    | none => rfl
    | some _ => exact (show False from r).elim
  | some _ => cases u with
    | none => exact (show False from r).elim
    | some _ => rfl
theorem RelO.getD {o : Option V} {u : Option Value} {d : V} {d' : Value} (r : RelO o u) (rd : RelV d d') : RelV (o.getD d) (u.getD d') := by
  cases o with
  | none => cases u with
    | none => exact rd
    | some _ => exact (show False from r).elim
  | some _ => cases u with
    | none => exact (show False from r).elim
    | some _ => exact r
theorem KV.val {kvs : List (κ × V)} {vs : List (κ × Value)} (r : KV kvs vs) (k : κ) : RelO (valV kvs k) (valueAt vs k) := by
  unfold KV at r
  induction r with
  | nil => exact True.intro
  | @cons p q ps qs h t ih =>
    obtain ⟨h1, h2⟩ := h
    by_cases e : p.1 = k
    · have e' : q.1 = k := h1.symm.trans e
      have b : valueAt (q :: qs) k = some q.2 := by simp [valueAt, List.find?_cons, e']
      rw [valV_pos e, b]; exact h2
    · have e' : ¬ q.1 = k := fun z => e (h1.trans z)
      have b : valueAt (q :: qs) k = valueAt qs k := by simp [valueAt, List.find?_cons, e']
      rw [valV_neg e, b]; exact ih
theorem KV.any {kvs : List (κ × V)} {vs : List (κ × Value)} (r : KV kvs vs) (k : κ) : (kvs.any fun kv => decide (kv.1 = k)) = vs.any fun kv => decide (kv.1 = k) := by
  unfold KV at r
  induction r with
  | nil => rfl
  | cons h t ih => rw [List.any_cons, List.any_cons, ih, h.1]
theorem KV.repl {kvs : List (κ × V)} {vs : List (κ × Value)} (r : KV kvs vs) (k : κ) {y : V} {u : Value} (ry : RelV y u) :
    KV (kvs.map fun kv => if kv.1 = k then (kv.1, y) else kv) (vs.map fun kv => if kv.1 = k then (kv.1, u) else kv) := by
  unfold KV at r ⊢
  induction r with
  | nil => exact .nil
  | @cons p q ps qs h t ih =>
    rw [List.map_cons, List.map_cons]
    refine .cons ?_ ih
    obtain ⟨h1, h2⟩ := h
    by_cases e : p.1 = k
    · rw [if_pos e, if_pos (h1.symm.trans e)]; exact ⟨h1, ry⟩
    · rw [if_neg e, if_neg (fun z => e (h1.trans z))]; exact ⟨h1, h2⟩
theorem KV.put {kvs : List (κ × V)} {vs : List (κ × Value)} (r : KV kvs vs) (k : κ) {y : V} {u : Value} (ry : RelV y u) : KV (putK kvs k y) (stored vs k u) := by
  unfold putK stored
  rw [r.any k]
  by_cases e : (vs.any fun kv => decide (kv.1 = k)) = true
  · rw [if_pos e, if_pos e]; exact r.repl k ry
  · rw [if_neg e, if_neg e]; exact Paired.snoc r ⟨rfl, ry⟩
theorem KV.keys {kvs : List (κ × V)} {vs : List (κ × Value)} (r : KV kvs vs) : kvs.map (·.1) = vs.map (·.1) := by
  unfold KV at r
  induction r with
  | nil => rfl
  | cons h t ih => rw [List.map_cons, List.map_cons, ih, h.1]
theorem KV.length {kvs : List (κ × V)} {vs : List (κ × Value)} (r : KV kvs vs) : kvs.length = vs.length := Paired.length r
end
theorem kV_is {P : Program} {w : World} {k : Key} {u : Value} (r : RelV (kV k) u) : (mixKind P w).is k u = true := by
  cases k with
  | inl i => obtain ⟨t, e⟩ := (show ∃ t, u = Value.int i t from r); subst e; exact mixKind_int P w i t
  | inr x => obtain ⟨t, e⟩ := (show ∃ t, u = Value.str x t from r); subst e; exact mixKind_str P w x t
theorem items_are {P : Program} {w : World} : ∀ {ks : List Key} {us : List Value}, Vals (ks.map kV) us → ItemsAre (mixKind P w) ks us
  | [], _, r => by rw [List.map_nil] at r; cases r; exact .nil
  | k :: ks, _, r => by
    rw [List.map_cons] at r
    cases r with
    | cons h t => exact .cons (kV_is h) (items_are t)
noncomputable abbrev KT (H : Hp) : List (List Key × V) → List (List Key × Addr × Value) → Prop := Paired fun p q => p.1 = q.1 ∧ H q.2.1 = some (.tup (p.1.map kV)) ∧ RelV p.2 q.2.2
theorem KT.val {H : Hp} {kvs : List (List Key × V)} {xs : List (List Key × Addr × Value)} (r : KT H kvs xs) (k : List Key) : RelO (valV kvs k) ((atKey xs k).map (·.2)) := by
  induction r with
  | nil => exact True.intro
  | @cons p q ps qs h t ih =>
    obtain ⟨h1, _, h2⟩ := h
    by_cases e : p.1 = k
    · have e' : q.1 = k := h1.symm.trans e
      have b : atKey (q :: qs) k = some q.2 := by simp [atKey, List.find?_cons, e']
      rw [valV_pos e, b]; exact h2
    · have e' : ¬ q.1 = k := fun z => e (h1.trans z)
      have b : atKey (q :: qs) k = atKey qs k := by simp [atKey, List.find?_cons, e']
      rw [valV_neg e, b]; exact ih
theorem KT.repl {H : Hp} {kvs : List (List Key × V)} {xs : List (List Key × Addr × Value)} (r : KT H kvs xs) (k : List Key) {y : V} {u : Value} (ry : RelV y u) :
    KT H (kvs.map fun kv => if kv.1 = k then (kv.1, y) else kv) (xs.map (putAt k u)) := by
  induction r with
  | nil => exact .nil
  | @cons p q ps qs h t ih =>
    rw [List.map_cons, List.map_cons]
    refine .cons ?_ ih
    obtain ⟨h1, h2, h3⟩ := h
    unfold putAt
    by_cases e : p.1 = k
    · rw [if_pos e, if_pos (h1.symm.trans e)]; exact ⟨h1, h2, ry⟩
    · rw [if_neg e, if_neg (fun z => e (h1.trans z))]; exact ⟨h1, h2, h3⟩
theorem KT.put {H : Hp} {kvs : List (List Key × V)} {xs : List (List Key × Addr × Value)} (r : KT H kvs xs) (k : List Key) {b : Addr} {y : V} {u : Value} (hb : H b = some (.tup (k.map kV))) (ry : RelV y u) :
    KT H (putK kvs k y) (storedH xs k b u) := by
  have e : (kvs.any fun kv => decide (kv.1 = k)) = (atKey xs k).isSome := by
    rw [valV_any, (r.val k).isSome_eq, Option.isSome_map]
  unfold putK storedH
  rw [e]
  by_cases q : (atKey xs k).isSome = true
  · rw [if_pos q, if_pos q]; exact r.repl k ry
  · rw [if_neg q, if_neg q]; exact Paired.snoc r ⟨rfl, hb, ry⟩
theorem KT.keeps {H H' : Hp} {kvs : List (List Key × V)} {xs : List (List Key × Addr × Value)} (r : KT H kvs xs) (ht : ∀ b ys, H b = some (.tup ys) → H' b = some (.tup ys)) : KT H' kvs xs :=
  Paired.mapP r fun _ _ z => ⟨z.1, ht _ _ z.2.1, z.2.2⟩
section
variable {P : Program} {w : World} {H : Hp} {h : Heap} {a : Addr}
theorem rd_of {u : HO} (ok : HOk P w H h) (e : Rd H a u) : ObjOk P w H h a u := e.ok ok
theorem dk_rd {kvs : List (Key × V)} (ok : HOk P w H h) (e : Rd H a (.dK kvs)) : kvs.length ≤ sizeLine ∧ (a == sysModules) = false ∧ ∃ vs, KV kvs vs ∧ h.DictOf (mixKind P w) a vs :=
  show ObjOk P w H h a (.dK kvs) from rd_of ok e
theorem dk_of {kvs : List (Key × V)} (ok : HOk P w H h) (e : H a = some (.dK kvs)) : kvs.length ≤ sizeLine ∧ (a == sysModules) = false ∧ ∃ vs, KV kvs vs ∧ h.DictOf (mixKind P w) a vs := dk_rd ok (.inl e)
theorem key_of {ks : List Key} (ok : HOk P w H h) (e : H a = some (.tup (ks.map kV))) : (tupleKind (mixKind P w)).is h ks a := by
  obtain ⟨_, its, r, o, h1, h2, n, h3⟩ := (show ObjOk P w H h a (.tup (ks.map kV)) from ok a _ e)
  exact ⟨o, its.toArray, n, h1, h2, h3, by simpa using items_are r⟩
theorem dt_rd {kvs : List (List Key × V)} (ok : HOk P w H h) (e : Rd H a (.dT kvs)) : kvs.length ≤ sizeLine ∧ (a == sysModules) = false ∧
    ∃ xs, KT H kvs xs ∧ h.DictOfH (tupleKind (mixKind P w)) a xs := by
  obtain ⟨z, y, xs, r, o, es, ep, h1, h2, h3, h4, h5⟩ := (show ObjOk P w H h a (.dT kvs) from rd_of ok e)
  refine ⟨z, y, xs, r, o, es, ep, h1, h2, h3, h4, fun x hx => ?_, h5⟩
  have all : ∀ {l : List (List Key × V)} {m : List (List Key × Addr × Value)}, KT H l m → ∀ x ∈ m, (tupleKind (mixKind P w)).is h x.1 x.2.1 := by
    intro l m q
    induction q with
    | nil => intro x hx; exact nomatch hx
    | @cons p q ps qs hq t ih =>
      intro x hx
      rcases List.mem_cons.mp hx with e | hx
      · subst e
        exact key_of ok (by rw [← hq.1]; exact hq.2.1)
      · exact ih x hx
  exact all r x hx
theorem dt_of {kvs : List (List Key × V)} (ok : HOk P w H h) (e : H a = some (.dT kvs)) : kvs.length ≤ sizeLine ∧ (a == sysModules) = false ∧
    ∃ xs, KT H kvs xs ∧ h.DictOfH (tupleKind (mixKind P w)) a xs := dt_rd ok (.inl e)
end
noncomputable def DGet (H : Hp) (a : Addr) (y : V) (r : Option V) : Prop :=
  (∃ kvs k, Rd H a (.dK kvs) ∧ y = kV k ∧ r = valV kvs k) ∨ ∃ kvs k b, Rd H a (.dT kvs) ∧ y = .ref b ∧ H b = some (.tup (k.map kV)) ∧ r = valV kvs k
noncomputable def DPut (H : Hp) (a : Addr) (y v : V) (H' : Hp) : Prop :=
  (∃ kvs k, H a = some (.dK kvs) ∧ y = kV k ∧ kvs.length < sizeLine ∧ H' = upd H a (.dK (putK kvs k v))) ∨
  ∃ kvs k b, H a = some (.dT kvs) ∧ y = .ref b ∧ H b = some (.tup (k.map kV)) ∧ kvs.length < sizeLine ∧ H' = upd H a (.dT (putK kvs k v))
theorem DPut.k {H : Hp} {a : Addr} {kvs : List (Key × V)} {k : Key} {v : V} (e : H a = some (.dK kvs)) (hl : kvs.length < sizeLine) : DPut H a (kV k) v (upd H a (.dK (putK kvs k v))) := .inl ⟨kvs, k, e, rfl, hl, rfl⟩
section
variable {X : Cx} {pins : List (Addr × Obj)} {σ : St} {H : Hp} {s : Shared} {a : Addr} {y v : V} {u r : Value} {o : Option V} {A : Around} {E : Value → Shared → Prop}
theorem Inv.big (I : Inv X pins σ H s) : sysModules < s.heap.objs.size := by
  have h : mainGlobals < s.heap.objs.size := (I.mod.glob.keeps I.bk).lt
  exact Nat.lt_trans (by decide) h
theorem d_getItem {Q : Value → Shared → Prop} (hu : A.units + 1 < cLine) (I : Inv X pins σ H s) (g : DGet H a y (some v)) (ry : RelV y u) (h : ∀ w' s', Inv X pins σ H s' → RelV v w' → Q w' s') :
    wpAny (model X.prog X.w) A (getItem (.ref a) u) Q E s := by
  rcases g with ⟨kvs, k, e, ey, l⟩ | ⟨kvs, k, b, e, ey, eb, l⟩
  · subst ey
    obtain ⟨z, hd, vs, rel, dd⟩ := dk_rd I.hok e
    obtain ⟨w', hw, rw'⟩ := RelO.some_of (v := v) (o := valueAt vs k) (by rw [l]; exact rel.val k)
    exact wpAny_getItem_of (kV_is ry) dd.mapOf hw (h w' _ (I.tok _) rw')
  · subst ey
    cases (show u = Value.ref b from ry)
    obtain ⟨z, hd, xs, rel, dd⟩ := dt_rd I.hok e
    obtain ⟨w', hw, rw'⟩ := RelO.some_of (v := v) (o := (atKey xs k).map (·.2)) (by rw [l]; exact rel.val k)
    obtain ⟨p, hp, hp2⟩ := Option.map_eq_some_iff.mp hw
    refine wpAny_getItem_heap (tupleKind_room_in1 hu) (key_of I.hok eb) dd hp ?_
    rw [hp2]
    exact h w' _ (I.tok _) rw'
theorem d_write {h' : Heap} {t' : Nat} {ob : HO} (I : Inv X pins σ H s) (mu : Mut (H a)) (hs : Heap.SameBut a s.heap h') (he : ∃ q, h'.get? a = some q) (new : ObjOk X.prog X.w (upd H a ob) h' a ob) :
    Inv X pins σ (upd H a ob) { s with heap := h', toks := t' } :=
  I.write (x := a) (e := a) mu (.inl rfl) (fun b q hb z => (hs.2 b hb).trans z) he new
theorem dk_new {P : Program} {w : World} {H' : Hp} {h' : Heap} {kvs : List (Key × V)} {vs : List (Key × Value)} (z : kvs.length ≤ sizeLine) (hd : (a == sysModules) = false) (rel : KV kvs vs) (dd : h'.DictOf (mixKind P w) a vs) :
    ObjOk P w H' h' a (.dK kvs) := ⟨z, hd, vs, rel, dd⟩
theorem d_setItem {H' : Hp} {Q : Unit → Shared → Prop} (hu : A.units + 1 < cLine) (I : Inv X pins σ H s) (g : DPut H a y v H') (ry : RelV y u) (rv : RelV v r) (h : ∀ s', Inv X pins σ H' s' → Q () s') :
    wpAny (model X.prog X.w) A (setItem (.ref a) u r) Q E s := by
  rcases g with ⟨kvs, k, e, ey, l, eH⟩ | ⟨kvs, k, b, e, ey, eb, l, eH⟩
  · subst ey eH
    obtain ⟨z, hd, vs, rel, dd⟩ := dk_of I.hok e
    have hz : vs.length ≤ sizeLine := by rw [← rel.length]; exact z
    have hl : (putK kvs k v).length ≤ sizeLine := by have := length_putK kvs k v; omega
    refine wpAny_setItem_pairs (hsz := hz) (kV_is ry) dd fun h' dd' hs => h _ ?_
    have he : ∃ q, h'.get? a = some q := let ⟨q, _, _, hq, _⟩ := dd'; ⟨q, hq⟩
    exact d_write I (by rw [e]; exact True.intro) hs he (dk_new hl hd (rel.put k rv) dd')
  · subst ey eH
    cases (show u = Value.ref b from ry)
    obtain ⟨z, hd, xs, rel, dd⟩ := dt_of I.hok e
    have hz : xs.length ≤ sizeLine := by rw [← Paired.length rel]; exact z
    have hl : (putK kvs k v).length ≤ sizeLine := by have := length_putK kvs k v; omega
    refine wpAny_setItem_heap (hsz := hz) (tupleKind_room_in1 hu) (key_of I.hok eb) dd fun h' dd' hs => h _ ?_
    obtain ⟨q, es, ep, hq, h2, h3, h4, _, h5⟩ := dd'
    refine d_write I (by rw [e]; exact True.intro) hs ⟨q, hq⟩ ⟨hl, hd, _, (rel.put k eb rv).keeps fun c ys ec => ?_, q, es, ep, hq, h2, h3, h4, h5⟩
    rw [upd_ne (ne_of ec e (fun z => nomatch z))]
    exact ec
end
section
variable {X : Cx} {pins : List (Addr × Obj)} {σ : St} {H : Hp} {s : Shared} {a : Addr} {kvs : List (Key × V)} {k : Key} {u : Value} {A : Around} {E : Value → Shared → Prop}
theorem d_len {Q : Value → Shared → Prop} (I : Inv X pins σ H s) (e : Rd H a (.dK kvs)) (h : ∀ t s', Inv X pins σ H s' → Q (.int kvs.length t) s') : wpAny (model X.prog X.w) A (call (.builtin "len") [.ref a]) Q E s := by
  obtain ⟨z, hd, vs, rel, dd⟩ := dk_rd I.hok e
  refine call_len_dict hd dd (by rw [← rel.length]; rw [sizeLine_eq] at z; omega) ?_
  rw [← rel.length]
  exact h _ _ (I.tok _)
end
noncomputable def NoSl (i : Expr) : Prop := ∀ ov iv, subscripted i false ov iv = operate [ov, iv] (getItem ov iv)
theorem subD_of {prog : Program} {w : World} {A : Around} {E : Value → Shared → Prop} {s : Shared} {env : Env} {value slice : Expr} {pos : Pos} {T id : String} {Q : Value → Shared → Prop}
    (hl : typeLookup (.type T) "__getitem__" = pure (some (.builtin id))) (hs : NoSl slice)
    (h : wpAny (model prog w) A (eval value env) (fun o s₁ => wpAny (model prog w) A (eval slice env) (fun i s₂ => s₂.TypeIs o T ∧ wpAny (model prog w) A (getItem o i) Q E s₂) E s₁) E s) :
    wpAny (model prog w) A (eval (.Subscript value slice pos) env) Q E s := by
  refine Subscript_ (wpAny_mono h (fun o s₁ h₁ => wpAny_mono h₁ (fun i s₂ h₂ => ?_) fun _ _ x => x) fun _ _ x => x)
  obtain ⟨hT, h₂⟩ := h₂
  unfold subscriptTail
  refine wpAny_bind ?_
  rw [getitemInPython_of_ne hT.not_modules]
  refine wpAny_bind (wpAny_specialOf hT hl ?_)
  have fin : wpAny (model prog w) A (subscripted slice false o i) (fun r s₃ => wpAny (model prog w) A (letTemporaryGo value o r >>= fun _ => pure r) Q E s₃) E s₂ := by
    rw [hs o i]
    exact wpAny_operating (wpAny_mono h₂ (fun r s₃ h₃ => wpAny_bind (wpAny_letTemporaryGo (wpAny_pure h₃))) fun _ _ x => x)
  first
    | exact wpAny_pure (wpAny_bind fin)
    | exact wpAny_bind (wpAny_pure (wpAny_bind fin))
    | exact wpAny_bind fin
theorem dict_typeIs {X : Cx} {pins : List (Addr × Obj)} {σ : St} {H : Hp} {s : Shared} {a : Addr} {y : V} {o : Option V} (I : Inv X pins σ H s) (g : DGet H a y o) : s.TypeIs (.ref a) "dict" := by
  rcases g with ⟨kvs, k, e, _, _⟩ | ⟨kvs, k, b, e, _, _, _⟩
  · obtain ⟨_, _, vs, _, dd⟩ := dk_rd I.hok e
    exact dd.typeIs
  · obtain ⟨_, _, xs, _, dd⟩ := dt_rd I.hok e
    exact dd.typeIs
noncomputable def tDGet (td ty : TE) : TE := fun σ H Q => td σ H fun x H1 => ty σ H1 fun y H2 => ∃ a v, x = .ref a ∧ DGet H2 a y (some v) ∧ Q v H2
noncomputable def sDPut (td ty tv : TE) : TS := fun D σ H => tv σ H fun v H1 => td σ H1 fun x H2 => ty σ H2 fun y H3 => ∃ a H4, x = .ref a ∧ DPut H3 a y v H4 ∧ D.nx σ H4
section
variable {X : Cx} {o i e value : Expr} {pos pos' tpos : Pos} {td ty tv : TE}
theorem pe_dget (hu : X.A.units + 1 < cLine) (ho : PE X o td) (hi : PE X i ty) (hs : NoSl i) : PE X (.Subscript o i pos) (tDGet td ty) := by
  intro pins s σ H Q I h
  refine subD_of PySem.F.slot_dict_getitem.lookup hs (thn (ho pins s σ H _ I h) fun u s1 ⟨x, H1, I1, rx, q1⟩ => thn (hi pins s1 σ H1 _ I1 q1) fun iv s2 ⟨y, H2, I2, ry, a, v, ex, g, q2⟩ => ?_)
  subst ex
  obtain rfl : u = Value.ref a := rx
  exact ⟨dict_typeIs I2 g, d_getItem hu I2 g ry fun w' s3 I3 rw' => ⟨v, H2, I3, rw', q2⟩⟩
theorem ps_dput (hu : X.A.units + 1 < cLine) (ho : PE X o td) (hi : PE X i ty) (hv : PE X value tv) (hs : swapsWith value (some (.Subscript o i pos')) pos.line X.env = pure false) :
    PS X (.Assign [.Subscript o i pos'] value pos) (sDPut td ty tv) := by
  intro pins s σ H D I h
  refine wpAny_Assign_Subscript (thn (hv pins s σ H _ I h) fun r s1 ⟨v, H1, I1, rv, q1⟩ => thn (ho pins s1 σ H1 _ I1 q1) fun u s2 ⟨x, H2, I2, rx, q2⟩ => thn (hi pins s2 σ H2 _ I2 q2) fun iv s3 ⟨y, H3, I3, ry, a, H4, ex, g, q3⟩ => ?_) hs
  subst ex
  obtain rfl : u = Value.ref a := rx
  exact d_setItem hu I3 g ry rv fun s4 I4 => ⟨σ, H4, I4, q3⟩
end
theorem dk_empty {P : Program} {w : World} {H : Hp} (h : Heap) (hb : sysModules < h.objs.size) : ObjOk P w H (h.push { cls := .type "dict", data := .dict #[] }) h.objs.size (.dK []) :=
  ⟨Nat.zero_le _, beq_eq_false_iff_ne.mpr (Ne.symm (Nat.ne_of_lt hb)), [], .nil, Heap.DictOf.new h⟩
noncomputable def tDNewK : TE := fun _ H Q => ∀ p, H p = none → Q (.ref p) (upd H p (.dK []))
section
variable {X : Cx} {pos : Pos}
theorem pe_dnewK : PE X (.Dict [] [] pos) tDNewK := fun pins s σ H Q I h =>
  wpAny_Dict_empty ⟨.ref s.heap.objs.size, _, I.laid (a := s.heap.objs.size) (o := .dK []) (t' := s.toks) (fun _ _ q => Heap.get?_push_of_some _ q) (Nat.le_refl _) (dk_empty s.heap I.big), rfl, h _ (I.hok.fresh (Nat.le_refl _))⟩
end
structure M2 (X : Cx) (o : Expr) (m : Str) (apos : Pos) (e f : Expr) (cpos : Pos) : Prop where
  base : attributeBase o m X.env (eval o X.env) = eval o X.env
  few : ((backTo cpos (starEach [e, f] X.env)).all (fun x => !x.1) && (backToKw cpos (keywordEach [] X.env)).all (fun x => x.1.isSome)
    && decide (([e, f] : List Expr).length + ([] : List Keyword).length + (if ([] : List Keyword).isEmpty then 0 else 1) < 30)) = true
  line : (apos.endLine == cpos.line) = true
  trees : backTo cpos (starEach [e, f] X.env) = [(false, eval e X.env), (false, eval f X.env)]
noncomputable def IsD (H : Hp) (a : Addr) : Prop := (∃ kvs, Rd H a (.dK kvs)) ∨ ∃ kvs, Rd H a (.dT kvs)
theorem isD_at {X : Cx} {pins : List (Addr × Obj)} {σ : St} {H : Hp} {s : Shared} {a : Addr} (I : Inv X pins σ H s) (d : IsD H a) :
    s.TypeIs (.ref a) "dict" ∧ (∀ b, Value.ref a = .ref b → ∃ ob, s.heap.get? b = some ob ∧ ob.dict = none) ∧ (a == sysModules) = false := by
  rcases d with ⟨kvs, e⟩ | ⟨kvs, e⟩
  · obtain ⟨_, hd, vs, _, dd⟩ := dk_rd I.hok e
    refine ⟨dd.typeIs, fun b q => ?_, hd⟩
    cases q
    obtain ⟨ob, _, _, h1, h2, _⟩ := dd
    exact ⟨ob, h1, h2.2.1⟩
  · obtain ⟨_, hd, xs, _, dd⟩ := dt_rd I.hok e
    refine ⟨dd.typeIs, fun b q => ?_, hd⟩
    cases q
    obtain ⟨ob, _, _, h1, h2, _⟩ := dd
    exact ⟨ob, h1, h2.2.1⟩
section
variable {X : Cx} {pins : List (Addr × Obj)} {σ : St} {H : Hp} {s : Shared} {a : Addr} {y d : V} {u r : Value} {o : Option V} {A : Around} {E : Value → Shared → Prop}
theorem d_get2 {Q : Value → Shared → Prop} (hu : A.units + 1 < cLine) (I : Inv X pins σ H s) (g : DGet H a y o) (ry : RelV y u) (rd : RelV d r) (h : ∀ w' s', Inv X pins σ H s' → RelV (o.getD d) w' → Q w' s') :
    wpAny (model X.prog X.w) A (call (.builtin "dict.get") [.ref a, u, r]) Q E s := by
  rcases g with ⟨kvs, k, e, ey, l⟩ | ⟨kvs, k, b, e, ey, eb, l⟩
  · subst ey
    obtain ⟨z, hd, vs, rel, dd⟩ := dk_rd I.hok e
    refine call_meetsIn PySem.F.slot_dict_get dd.typeIs PySem.F.entry_dict_get (PySem.F.args_dict_get_3 _ _ _) (meets_dict_get_default (mixKind X.prog X.w) a (kV_is ry) hd r) ⟨_, dd.mapOf, h _ _ (I.tok _) ?_⟩
    rw [l]
    exact (rel.val k).getD rd
  · subst ey
    cases (show u = Value.ref b from ry)
    obtain ⟨z, hd, xs, rel, dd⟩ := dt_rd I.hok e
    refine call_meetsIn PySem.F.slot_dict_get dd.typeIs PySem.F.entry_dict_get (PySem.F.args_dict_get_3 _ _ _) (meetsH_dict_get_default (tupleKind (mixKind X.prog X.w)) a b hd r) ⟨tupleKind_room_in1 hu, k, xs, key_of I.hok eb, dd, h _ _ (I.tok _) ?_⟩
    rw [l]
    exact (rel.val k).getD rd
end
noncomputable def tDGet2 (td ty tx : TE) : TE := fun σ H Q => td σ H fun x H1 => ∃ a, x = .ref a ∧ IsD H1 a ∧ ty σ H1 fun y H2 => tx σ H2 fun z H3 => ∃ o, DGet H3 a y o ∧ Q (o.getD z) H3
section
variable {X : Cx} {o e f : Expr} {apos cpos : Pos} {td ty tx : TE}
theorem pe_dget2 (hu : X.A.units + 1 < cLine) (ho : PE X o td) (he : PE X e ty) (hf : PE X f tx) (m : M2 X o "get" apos e f cpos) : PE X (.Call (.Attribute o "get" apos) [e, f] [] cpos) (tDGet2 td ty tx) := by
  intro pins s σ H Q I h
  refine wpAny_Call_method m.base m.few m.line PySem.F.plainAttrs_dict PySem.F.slot_dict_get PySem.F.type_dict_get (thn (ho pins s σ H _ I h) fun u s1 ⟨x, H1, I1, rx, a, ex, d, q1⟩ => ?_)
  subst ex
  obtain rfl : u = Value.ref a := rx
  obtain ⟨t1, t2, _⟩ := isD_at I1 d
  refine ⟨t1, t2, ?_⟩
  rw [m.trees]
  refine Calls.callWith_builtin rfl (Calls.evalArgs_plain (Calls.spliced_cons (thn (he pins s1 σ H1 _ I1 q1) fun iv s2 ⟨y, H2, I2, ry, q2⟩ =>
    Calls.spliced_cons (thn (hf pins s2 σ H2 _ I2 q2) fun fv s3 ⟨z, H3, I3, rz, ov, g, q3⟩ => Calls.spliced_nil ?_))))
  exact d_get2 hu I3 g ry rz fun w' s4 I4 rw' => ⟨_, H3, I4, rw', q3⟩
end
section
variable {X : Cx} {pins : List (Addr × Obj)} {σ : St} {H : Hp} {s : Shared} {a : Addr} {kvs : List (Key × V)} {A : Around} {E : Value → Shared → Prop}
end
section
variable {X : Cx} {pins : List (Addr × Obj)} {σ : St} {H : Hp} {s : Shared} {a : Addr} {y : V} {u : Value} {A : Around} {E : Value → Shared → Prop}
end
end L2
namespace L2
open PySem PySem.Spec PyProof.Rows
section
variable {κ : Type} [DecidableEq κ]
theorem nd_snoc : ∀ {l : List κ} {k : κ}, l.Nodup → ¬ k ∈ l → (l ++ [k]).Nodup
  | [], k, _, _ => by simp
  | a :: r, k, h, hk => by
    obtain ⟨h1, h2⟩ := List.nodup_cons.mp h
    show (a :: (r ++ [k])).Nodup
    refine List.nodup_cons.mpr ⟨fun m => ?_, nd_snoc h2 fun m => hk (List.mem_cons.mpr (Or.inr m))⟩
    rcases List.mem_append.mp m with q | q
    · exact h1 q
    · exact hk (List.mem_cons.mpr (Or.inl (List.mem_singleton.mp q).symm))
end
end L2
namespace L2
open PySem PySem.Spec PyProof.Rows
noncomputable def Sm (n : Nat) (x : Int) : Prop := x.natAbs < 2 ^ n
theorem Sm.mono {m n : Nat} {x : Int} (h : Sm m x) (l : m ≤ n) : Sm n x := Nat.lt_of_lt_of_le h (Nat.pow_le_pow_right (by decide) l)
theorem Sm.bits {n : Nat} {x : Int} (h : Sm n x) : Builtin.Int.intBits x ≤ n := by
  unfold Builtin.Int.intBits
  split
  · exact Nat.zero_le _
  · have hn : x.natAbs < 2 ^ n := h
    rename_i hx
    have h0 : x.natAbs ≠ 0 := fun e => hx (by have : x = 0 := by omega
                                              rw [this]; rfl)
    have : x.natAbs.log2 < n := (Nat.log2_lt h0).mpr hn
    omega
theorem Sm.mulOk {a b : Int} {m n : Nat} (ha : Sm m a) (hb : Sm n b) (h : m + n ≤ 134217728) : IntMulOk a b := PyProof.Rows.mulOk_of_bits ha.bits hb.bits h
theorem Sm.log2 {n : Nat} {x : Int} (h : Sm n x) : x.natAbs.log2 < n + 1 := by
  have hn : x.natAbs < 2 ^ n := h
  by_cases h0 : x.natAbs = 0
  · rw [h0, Nat.log2_zero]; omega
  · have := (Nat.log2_lt h0).mpr hn
    omega
theorem Sm.of {n : Nat} {x : Int} (h1 : -(2 ^ n : Nat) < x) (h2 : x < (2 ^ n : Nat)) : Sm n x := by
  unfold Sm
  generalize 2 ^ n = k at *
  omega
theorem Sm.mul {a b : Int} {m n : Nat} (ha : Sm m a) (hb : Sm n b) : Sm (m + n) (a * b) := by
  unfold Sm at *
  rw [Int.natAbs_mul, Nat.pow_add]
  exact Nat.mul_lt_mul'' ha hb
theorem Sm.add {a b : Int} {n : Nat} (ha : Sm n a) (hb : Sm n b) : Sm (n + 1) (a + b) := by
  unfold Sm at *
  rw [Nat.pow_succ]
  have := Int.natAbs_add_le a b
  omega
theorem Sm.le {a b : Int} {n : Nat} (h : a.natAbs ≤ b.natAbs) (hb : Sm n b) : Sm n a := Nat.lt_of_le_of_lt h hb
section
variable {X : Cx}
noncomputable def CDivB (_ j : Int) : Prop := j ≠ 0 ∧ Sm 8000 j
theorem op_fdivB : OpR X (binaryOp .FloorDiv) (rI CDivB fun i j => .int (i.fdiv j)) := opI fun _ _ _ _ _ _ _ hc q => floordiv_int hc.1 q (.inl (PyProof.noPylong_of_log2 (Nat.lt_trans hc.2.log2 (by decide))))
noncomputable def CMulB (i j : Int) : Prop := CMul i j ∨ (Sm 60000000 i ∧ Sm 60000000 j)
theorem CMulB.ok {i j : Int} (h : CMulB i j) : IntMulOk i j := by
  rcases h with h | ⟨h1, h2⟩
  · exact h.ok
  · exact h1.mulOk h2 (by decide)
theorem CMulB.l {i j : Int} (h1 : -(2 ^ 64) < i) (h2 : i < 2 ^ 64) : CMulB i j := .inl (.inl ⟨h1, h2⟩)
theorem CMulB.r {i j : Int} (h1 : -(2 ^ 64) < j) (h2 : j < 2 ^ 64) : CMulB i j := .inl (.inr ⟨h1, h2⟩)
theorem CMulB.s {i j : Int} {m n : Nat} (h1 : Sm m i) (h2 : Sm n j) (hm : m ≤ 60000000) (hn : n ≤ 60000000) : CMulB i j := .inr ⟨h1.mono hm, h2.mono hn⟩
theorem op_mulB : OpR X (binaryOp .Mult) (rI CMulB fun i j => .int (i * j)) := opI fun _ _ _ _ _ _ _ hc q => mul_int q hc.ok
noncomputable def rIsTy (K : PySem.W.Frag) (T : String) : List V → Hp → VK → Prop := fun xs H Q => ∃ x t b, xs = [x, .ty T] ∧ TyOf K H x t ∧ PySem.W.kitOne K t (.type T) = some b ∧ Q (.bl b) H
theorem call_isTy {T : String} : CallR X (.builtin "isinstance") (rIsTy X.K T) := by
  intro pins s σ H xs us Q I r h
  obtain ⟨x, t, b, rfl, ty, e, q⟩ := h
  obtain ⟨u, v, rfl, ru, rv⟩ := Vals.two r
  obtain rfl : v = Value.type T := rv
  exact isinst_ok I ru ty e fun tk => ⟨.bl b, H, I.tok tk, rfl, q⟩
end
section
variable {σ : St} {H H' : Hp} {Q : VK} {D : Ends} {t u : TS} {te ta tb : TE} {v w x : V} {i j : Int} {b c : Bool} {X : Cx} {K : PySem.W.Frag}
theorem r_var {n : Nat} (h : σ[n]? = some (some v)) (k : Q v H) : tVar n σ H Q := ⟨v, h, k⟩
theorem r_c (k : Q v H) : tC v σ H Q := k
theorem r_seq (k : t ⟨u D, D.rt, D.bk, D.ct⟩ σ H) : tSeq t u D σ H := k
theorem r_nx {n r b' c'} (k : n σ H) : Ends.nx ⟨n, r, b', c'⟩ σ H := k
theorem r_rt {n r b' c'} (k : r v H) : Ends.rt ⟨n, r, b', c'⟩ v H := k
theorem r_next (k : D.nx σ H) : tNext D σ H := k
theorem r_asg {g : TG} (k : te σ H fun x H1 => g x σ H1 D.nx) : tAsg te g D σ H := k
theorem r_gname {n : Nat} {R : St → Hp → Prop} (k : R (σ.set n (some v)) H) : gName n v σ H R := k
theorem r_op {r : R2} (k : ta σ H fun x H1 => tb σ H1 fun y H2 => r x y H2 Q) : tOp r ta tb σ H Q := k
theorem r_un {r} (k : ta σ H fun x H1 => r x H1 Q) : tUn r ta σ H Q := k
theorem r_I0 {g} (k : Q (g i j) H) : rI0 g (.int i) (.int j) H Q := ⟨i, j, rfl, rfl, k⟩
theorem r_I {C g} (c : C i j) (k : Q (g i j) H) : rI C g (.int i) (.int j) H Q := ⟨i, j, rfl, rfl, c, k⟩
theorem r_U {g} (k : Q (g i) H) : rU g (.int i) H Q := ⟨i, rfl, k⟩
noncomputable def bK (R : Bool → Hp → Prop) : VK := fun x H => ∃ k, x = .bl k ∧ R k H
theorem r_bK {R : Bool → Hp → Prop} (k : R b H) : bK R (.bl b) H := ⟨b, rfl, k⟩
theorem r_test {R : Bool → Hp → Prop} (k : te σ H (bK R)) : tTest te σ H R := k
theorem r_tB {R : Bool → Hp → Prop} (k : te σ H (bK R)) : tB te σ H R := k
theorem r_ifS {tc : TT} (k : tc σ H fun b H1 => if b = true then t D σ H1 else u D σ H1) : tIfS tc t u D σ H := k
theorem r_if {tc : TT} (k : tc σ H fun b H1 => if b = true then ta σ H1 Q else tb σ H1 Q) : tIf tc ta tb σ H Q := k
theorem r_and {ca cb : TT} {R : Bool → Hp → Prop} (k : ca σ H fun c H1 => if c = true then cb σ H1 R else R false H1) : tAnd ca cb σ H R := k
theorem r_or {ca cb : TT} {R : Bool → Hp → Prop} (k : ca σ H fun c H1 => if c = true then R true H1 else cb σ H1 R) : tOr ca cb σ H R := k
theorem r_not {ca : TT} {R : Bool → Hp → Prop} (k : ca σ H fun c H1 => R (!c) H1) : tNot ca σ H R := k
noncomputable def andK (tb : TE) (σ : St) (Q : VK) : VK := fun x H1 => ∃ c, x = .bl c ∧ if c = true then tb σ H1 Q else Q (.bl false) H1
noncomputable def notK (Q : VK) : VK := fun x H1 => ∃ c, x = .bl c ∧ Q (.bl (!c)) H1
theorem r_andV (k : ta σ H (andK tb σ Q)) : tAndV ta tb σ H Q := k
theorem r_notV (k : ta σ H (notK Q)) : tNotV ta σ H Q := k
theorem r_andK (k : if c = true then tb σ H Q else Q (.bl false) H) : andK tb σ Q (.bl c) H := ⟨c, rfl, k⟩
theorem r_notK (k : Q (.bl (!c)) H) : notK Q (.bl c) H := ⟨c, rfl, k⟩
theorem r_ret (k : te σ H D.rt) : tRet te D σ H := k
theorem r_drop (k : te σ H fun _ H1 => D.nx σ H1) : tDrop te D σ H := k
theorem r_nil {R : List V → Hp → Prop} (k : R [] H) : tNil σ H R := k
theorem r_cons {tr : TA} {R : List V → Hp → Prop} (k : ta σ H fun x H1 => tr σ H1 fun xs H2 => R (x :: xs) H2) : tCons ta tr σ H R := k
noncomputable def tupK (Q : VK) : List V → Hp → Prop := fun xs H1 => xs.length ≤ sizeLine ∧ ∀ p, H1 p = none → Q (.ref p) (upd H1 p (.tup xs))
noncomputable def lstK (Q : VK) : List V → Hp → Prop := fun xs H1 => xs.length ≤ sizeLine ∧ ∀ p, H1 p = none → Q (.ref p) (upd H1 p (.lst xs))
theorem le_line {n : Nat} (h : n ≤ 1000) : n ≤ sizeLine := Nat.le_of_lt (small1000 h)
theorem r_tup {tr : TA} (k : tr σ H (tupK Q)) : tTup tr σ H Q := k
theorem r_lst {tr : TA} (k : tr σ H (lstK Q)) : tLst tr σ H Q := k
theorem r_tupK {xs : List V} (k : ∀ p, H p = none → Q (.ref p) (upd H p (.tup xs))) (h : xs.length ≤ 1000 := by exact Nat.le_of_ble_eq_true rfl) : tupK Q xs H := ⟨le_line h, k⟩
theorem r_lstK {xs : List V} (k : ∀ p, H p = none → Q (.ref p) (upd H p (.lst xs))) (h : xs.length ≤ 1000 := by exact Nat.le_of_ble_eq_true rfl) : lstK Q xs H := ⟨le_line h, k⟩
theorem r_call {sp : Sp} {E : XK} {tr : TA} (k : tr σ H fun vs H1 => sp vs H1 Q E) : tCall sp [] E tr σ H Q := by
  show tr σ H fun vs H1 => sp (vs ++ []) H1 Q E
  have e : (fun (vs : List V) H1 => sp (vs ++ []) H1 Q E) = fun vs H1 => sp vs H1 Q E := by
    funext vs H1
    rw [List.append_nil]
  rw [e]; exact k
theorem r_CB {r} {tr : TA} (k : tr σ H fun vs H1 => r vs H1 Q) : tCB r tr σ H Q := k
theorem r_par {n m : Nat} {ta : TA} (k : ta σ H fun vs H1 => ∃ v w, vs = [v, w] ∧ D.nx ((σ.set n (some v)).set m (some w)) H1) : tPar n m ta D σ H := k
theorem r_eqI (k : Q (.bl (decide (i = j))) H) : rEq (.int i) (.int j) H Q := ⟨rfl, by rw [dec_int, Bool.beq_eq_decide_eq]; exact k⟩
theorem r_neI (k : Q (.bl (!decide (i = j))) H) : rNe (.int i) (.int j) H Q := ⟨rfl, by rw [dec_int, Bool.beq_eq_decide_eq]; exact k⟩
theorem r_ixL {p : Addr} {xs : List V} (h : SqL K H p xs) (e : atI xs i = some v) (k : Q v H) : rIxL K (.ref p) (.int i) H Q := ⟨p, xs, i, v, rfl, rfl, h, e, k⟩
theorem r_ixT {p : Addr} {xs : List V} (h : SqT K H p xs) (e : atI xs i = some v) (k : Q v H) : rIxT K (.ref p) (.int i) H Q := ⟨p, xs, i, v, rfl, rfl, h, e, k⟩
noncomputable def rIxLT (K : PySem.W.Frag) : R2 := fun x y H Q => rIxL K x y H Q ∨ rIxT K x y H Q ∨ rIxS x y H Q
theorem ix_LT : IxR X (rIxLT X.K) := ix_seq
theorem r_ixl {p : Addr} {xs : List V} (h : H p = some (.lst xs)) (e : atI xs i = some v) (k : Q v H) : rIxLT K (.ref p) (.int i) H Q := .inl (r_ixL (SqL.of h) e k)
theorem r_ixt {p : Addr} {xs : List V} (h : H p = some (.tup xs)) (e : atI xs i = some v) (k : Q v H) : rIxLT K (.ref p) (.int i) H Q := .inr (.inl (r_ixT (SqT.of h) e k))
theorem i_T {A B : Prop} (h : A) : if true = true then A else B := iteT h
theorem i_F {A B : Prop} (h : B) : if false = true then A else B := iteF h
theorem i_dT {p A B : Prop} [Decidable p] (hp : p) (h : A) : if decide p = true then A else B := by rw [decide_eq_true hp]; exact iteT h
theorem i_dF {p A B : Prop} [Decidable p] (hp : ¬ p) (h : B) : if decide p = true then A else B := by rw [decide_eq_false hp]; exact iteF h
theorem i_d {p A B : Prop} [Decidable p] (h1 : p → A) (h2 : ¬ p → B) : if decide p = true then A else B := by
  by_cases h : p
  · exact i_dT h (h1 h)
  · exact i_dF h (h2 h)
theorem i_flip {A B : Prop} (h : if b = true then B else A) : if (!b) = true then A else B := by cases b <;> exact h
theorem i_bT {A B : Prop} (hb : b = true) (h : A) : if b = true then A else B := by rw [hb]; exact i_T h
theorem i_bF {A B : Prop} (hb : b = false) (h : B) : if b = true then A else B := by rw [hb]; exact i_F h
end
noncomputable def Kp (p : Addr) (H H' : Hp) : Prop := ∀ b o, b ≠ p → H b = some o → H' b = some o
theorem Kp.refl (p : Addr) (H : Hp) : Kp p H H := fun _ _ _ h => h
theorem Kp.trans {p : Addr} {H H1 H2 : Hp} (a : Kp p H H1) (b : Kp p H1 H2) : Kp p H H2 := fun c o n h => b c o n (a c o n h)
theorem Kp.upd {p : Addr} {H : Hp} {o : HO} : Kp p H (upd H p o) := fun c u n h => by rw [upd_ne n]; exact h
theorem Kp.new {p q : Addr} {H : Hp} {o : HO} (hq : H q = none) : Kp p H (L2.upd H q o) := fun c u n h => by rw [upd_ne (ne_of_none h hq)]; exact h
theorem Same.new {q : Addr} {H : Hp} {o : HO} (hq : H q = none) : Same H (upd H q o) := fun c u h => by rw [upd_ne (ne_of_none h hq)]; exact h
theorem Same.kp {p : Addr} {H H' : Hp} (s : Same H H') : Kp p H H' := fun c o _ h => s c o h
theorem Same.kpn {p : Addr} {H H2 H3 : Hp} (h : H p = none) (a : Same H H2) (k : Kp p H2 H3) : Same H H3 := fun c o e => k c o (ne_of_none e h) (a c o e)
structure Df (K : PySem.W.Frag) (mg : Str → Option Value) (x : Str) (st : Stmt) (ps : List Str) : Prop where
  ex : ∃ (f : Addr) (fd : FuncData), (∃ (oc : Value) (od : Option Addr) (dV kV doc pm : Value) (an : Option Addr) (cdv ct : Value) (osl : Array (Option Value)),
    fd = PySem.W.fnOf x x (defArgs st) (defBody st) (defScope st) dV kV doc pm an cdv ct ∧ K.lookup f = some ⟨oc, od, .func fd, osl⟩ ∧ PySem.W.codeIn K cdv x = true) ∧ PySem.W.keepIn K (.ref f) = true ∧ mg x = some (.ref f) ∧ Binds K fd ps []
structure Okf (P : Program) (w : World) (K : PySem.W.Frag) (mg : Str → Option Value) (base : Heap) (k : Nat) (x : Str) (ps : List Str) (sp : Sp) : Prop where
  ex : ∃ (f : Addr) (fd : FuncData), mg x = some (.ref f) ∧ PySem.W.keepIn K (.ref f) = true ∧ Binds K fd ps [] ∧ FnOk P w K mg base CX0 k f fd ps sp
theorem Okf.mono {P : Program} {w : World} {K : PySem.W.Frag} {mg : Str → Option Value} {base : Heap} {j k : Nat} {x : Str} {ps : List Str} {sp : Sp} (o : Okf P w K mg base j x ps sp) (h : j ≤ k) : Okf P w K mg base k x ps sp :=
  let ⟨f, fd, a, b, c, d⟩ := o.ex; ⟨f, fd, a, b, c, d.mono h⟩
theorem Okf.of {P : Program} {w : World} {K : PySem.W.Frag} {mg : Str → Option Value} {base : Heap} {k : Nat} {x : Str} {st : Stmt} {N ps : List Str} {sp : Sp} (d : Df K mg x st ps) (S : FnScope N ps (defScope st)) (len : ∀ vs H Q E, sp vs H Q E → vs.length = ps.length)
    (hbody : ∀ (f : Addr) (cdv : Value) (A : Around) (outer : List Env) (s : Shared) (H : Hp) (vs : List V) (Q : VK) (E : XK), Room k (A.deeper (envOfC x (defScope st) s.heap.objs.size f cdv)) → sp vs H Q E →
      ∃ t, PSs (cxOf CX0 P w K mg base N x (defScope st) f cdv A outer s H E).nox (defBody st) t ∧ t { nx := fun _ H' => Q .non H', rt := Q } (start N vs) H) : Okf P w K mg base (k + 1) x ps sp := by
  obtain ⟨f, fd, ⟨oc, od, dV, kV, doc, pm, an, cdv, ct, osl, rfl, lk, hcd⟩, kp, a, b⟩ := d.ex
  refine ⟨f, _, a, kp, b, fn_of lk hcd S len fun A outer s H vs Q E hr hsp => ?_⟩
  obtain ⟨t, h, q⟩ := hbody f cdv A outer s H vs Q E hr hsp
  exact ⟨t, h.nox, q⟩
theorem df_mk {K : PySem.W.Frag} {mg : Str → Option Value} {h : Heap} {x : Str} {st : Stmt} {ps : List Str} {f : Addr} {oc : Value} {od an : Option Addr} {osl : Array (Option Value)} {dV kV doc pm cdv ct : Value} (X : K.In h) (G : h.Ns mainGlobals mg)
    (a : PySem.W.nsIn K mainGlobals x = some (some (.ref f))) (l : K.lookup f = some ⟨oc, od, .func (PySem.W.fnOf x x (defArgs st) (defBody st) (defScope st) dV kV doc pm an cdv ct), osl⟩)
    (c : PySem.W.codeIn K cdv x = true) (k : PySem.W.keepIn K (.ref f) = true)
    (b : ∀ us : List Value, us.length = ps.length → bindArgs (PySem.W.fnOf x x (defArgs st) (defBody st) (defScope st) dV kV doc pm an cdv ct) ⟨us, []⟩ = pure (ps.zip us)) : Df K mg x st ps :=
  ⟨f, _, ⟨oc, od, dV, kV, doc, pm, an, cdv, ct, osl, rfl, l, c⟩, k, PySem.W.mg_of X G a, .all b⟩
section
variable {X : Cx} {k : Nat} {x : Str} {ps : List Str} {dvs : List V} {sp : Sp} {p pos : Pos} {e : Expr} {es : List Expr} {t : TA}
end
section
variable {X : Cx} {k : Nat} {x : Str} {ps : List Str} {sp : Sp} {p pos : Pos} {e : Expr} {es : List Expr} {t : TA}
theorem pe_callO (o : Okf X.prog X.w X.K X.mg X.base k x ps sp) (hr : Room k X.A) (hg : Gl X x) (ha : PA X (e :: es) t) (hdb : (x == ("__debug__" : Str)) = false := by decide)
    (he : starEach (e :: es) X.env = (false, eval e X.env) :: starEach es X.env := by rfl) (hpl : (backTo pos (starEach es X.env)).any (·.1) = false := by rfl) :
    PE X (.Call (.Name x p) (e :: es) [] pos) (tCall sp [] E0 t) := by
  obtain ⟨f, fd, a, b, c, d⟩ := o.ex
  exact pe_call d hr hg a b c .nil pass0 ha hdb he hpl
end
section
variable {σ : St} {H : Hp} {Q : VK} {D : Ends} {v : V} {i j : Int} {K : PySem.W.Frag}
theorem r_ixs {p : Addr} {xs : List V} (h : SqL K H p xs) (e : atI xs i = some v) (k : Q v H) : rIxLT K (.ref p) (.int i) H Q := .inl (r_ixL h e k)
theorem r_mod (h : 0 < j) (k : Q (.int (i % j)) H) : rI (fun _ j => 0 < j) (fun i j => .int (i % j)) (.int i) (.int j) H Q := r_I h k
theorem r_mul (h : CMulB i j) (k : Q (.int (i * j)) H) : rI CMulB (fun i j => .int (i * j)) (.int i) (.int j) H Q := r_I h k
theorem CDivB.of (h0 : 0 < j) (h1 : j < 2 ^ 64) : CDivB i j := ⟨by omega, Sm.mono (m := 64) (Sm.of (by omega) (by omega)) (by decide)⟩
theorem r_fdiv (h : CDivB i j) (k : Q (.int (i.fdiv j)) H) : rI CDivB (fun i j => .int (i.fdiv j)) (.int i) (.int j) H Q := r_I h k
theorem r_pow18 (k : Q (.int 1000000000000000000) H) : rI CPow (fun i j => .int (i ^ j.toNat)) (.int 10) (.int 18) H Q := r_I ⟨by decide, by decide, by decide⟩ k
theorem r_parK {n m : Nat} {w : V} (k : D.nx ((σ.set n (some v)).set m (some w)) H) : ∃ v' w', [v, w] = [v', w'] ∧ D.nx ((σ.set n (some v')).set m (some w')) H := ⟨v, w, rfl, k⟩
end
theorem bt_int : bootBuiltins "int" = some (.type "int") := by decide +kernel
theorem bt_bool : bootBuiltins "bool" = some (.type "bool") := by decide +kernel
theorem bt_str : bootBuiltins "str" = some (.type "str") := by decide +kernel
theorem bt_list : bootBuiltins "list" = some (.type "list") := by decide +kernel
theorem bt_tuple : bootBuiltins "tuple" = some (.type "tuple") := by decide +kernel
theorem bt_dict : bootBuiltins "dict" = some (.type "dict") := by decide +kernel
theorem bt_set : bootBuiltins "set" = some (.type "set") := by decide +kernel
theorem bt_enumerate : bootBuiltins "enumerate" = some (.type "enumerate") := by decide +kernel
theorem bt_reversed : bootBuiltins "reversed" = some (.type "reversed") := by decide +kernel
theorem bt_len : bootBuiltins "len" = some (.builtin "len") := by decide +kernel
theorem bt_abs : bootBuiltins "abs" = some (.builtin "abs") := by decide +kernel
theorem bt_min : bootBuiltins "min" = some (.builtin "min") := by decide +kernel
theorem bt_isinstance : bootBuiltins "isinstance" = some (.builtin "isinstance") := by decide +kernel
theorem bt_sorted : bootBuiltins "sorted" = some (.builtin "sorted") := by decide +kernel
theorem bt_all : bootBuiltins "all" = some (.builtin "all") := by decide +kernel
structure Bl (mg : Str → Option Value) : Prop where
  z_int : mg "int" = none
  z_bool : mg "bool" = none
  z_str : mg "str" = none
  z_list : mg "list" = none
  z_tuple : mg "tuple" = none
  z_dict : mg "dict" = none
  z_set : mg "set" = none
  z_range : mg "range" = none
  z_enumerate : mg "enumerate" = none
  z_zip : mg "zip" = none
  z_reversed : mg "reversed" = none
  z_len : mg "len" = none
  z_abs : mg "abs" = none
  z_max : mg "max" = none
  z_min : mg "min" = none
  z_isinstance : mg "isinstance" = none
  z_sorted : mg "sorted" = none
  z_all : mg "all" = none
  z_any : mg "any" = none
  z_sum : mg "sum" = none
section
variable {K : PySem.W.Frag} {H : Hp} {Q : VK}
theorem kit_bool_bool : PySem.W.kitOne K (.type "bool") (.type "bool") = some true := by first | rfl | with_unfolding_all rfl | decide
theorem kit_bool_int : PySem.W.kitOne K (.type "bool") (.type "int") = some true := by first | rfl | with_unfolding_all rfl | decide
theorem kit_int_bool : PySem.W.kitOne K (.type "int") (.type "bool") = some false := by first | rfl | with_unfolding_all rfl | decide
theorem kit_int_int : PySem.W.kitOne K (.type "int") (.type "int") = some true := by first | rfl | with_unfolding_all rfl | decide
theorem kit_str_bool : PySem.W.kitOne K (.type "str") (.type "bool") = some false := by first | rfl | with_unfolding_all rfl | decide
theorem kit_str_int : PySem.W.kitOne K (.type "str") (.type "int") = some false := by first | rfl | with_unfolding_all rfl | decide
theorem kit_str_str : PySem.W.kitOne K (.type "str") (.type "str") = some true := by first | rfl | with_unfolding_all rfl | decide
theorem kit_tuple_tuple : PySem.W.kitOne K (.type "tuple") (.type "tuple") = some true := by first | rfl | with_unfolding_all rfl | decide
theorem kit_list_list : PySem.W.kitOne K (.type "list") (.type "list") = some true := by first | rfl | with_unfolding_all rfl | decide
theorem kit_NoneType_bool : PySem.W.kitOne K (.type "NoneType") (.type "bool") = some false := by first | rfl | with_unfolding_all rfl | decide
theorem kit_NoneType_int : PySem.W.kitOne K (.type "NoneType") (.type "int") = some false := by first | rfl | with_unfolding_all rfl | decide
theorem r_isTy {T : String} {x : V} {t : Value} {b : Bool} (ty : TyOf K H x t) (e : PySem.W.kitOne K t (.type T) = some b) (k : Q (.bl b) H) : rIsTy K T [x, .ty T] H Q := ⟨x, t, b, rfl, ty, e, k⟩
end
section
variable {X : Cx} {K : PySem.W.Frag} {σ : St} {H : Hp} {Q : VK} {D : Ends} {i j : Int} {b : Bool}
noncomputable def rAbs : List V → Hp → VK → Prop := fun xs H Q => ∃ i, xs = [.int i] ∧ Q (.int (if i < 0 then -i else i)) H
theorem c_abs : CallR X (.builtin "abs") rAbs := call_abs
theorem r_abs (k : Q (.int (if i < 0 then -i else i)) H) : rAbs [.int i] H Q := ⟨i, rfl, k⟩
noncomputable def rMin2 : List V → Hp → VK → Prop := fun xs H Q => ∃ i j, xs = [.int i, .int j] ∧ Q (.int (if j < i then j else i)) H
theorem c_min (hc : X.calm = true) : CallR X (.builtin "min") rMin2 := call_min2 hc
theorem r_min (k : Q (.int (if j < i then j else i)) H) : rMin2 [.int i, .int j] H Q := ⟨i, j, rfl, k⟩
noncomputable def rLen (K : PySem.W.Frag) : List V → Hp → VK → Prop := fun xs H Q => ∃ x n, xs = [x] ∧ LenV K x H n ∧ Q (.int n) H
theorem c_len : CallR X (.builtin "len") (rLen X.K) := call_len
theorem r_lenL {p : Addr} {xs : List V} (h : SqL K H p xs) (k : Q (.int xs.length) H) : rLen K [.ref p] H Q := ⟨_, _, rfl, .inl ⟨xs, h, rfl⟩, k⟩
theorem r_lenl {p : Addr} {xs : List V} (h : H p = some (.lst xs)) (k : Q (.int xs.length) H) : rLen K [.ref p] H Q := r_lenL (SqL.of h) k
theorem r_lent {p : Addr} {xs : List V} (h : H p = some (.tup xs)) (k : Q (.int xs.length) H) : rLen K [.ref p] H Q := ⟨_, _, rfl, .inr ⟨xs, SqT.of h, rfl⟩, k⟩
theorem r_lens {x : Str} (h : x.length ≤ sizeLine) (k : Q (.int x.length) H) : rLen K [.str x] H Q := ⟨_, _, rfl, ⟨h, rfl⟩, k⟩
noncomputable def forK (g : TG) (tb : TS) (D : Ends) (σ : St) : It → Hp → Prop := fun J H1 => ∃ W : Nat → Nat → St → Hp → Prop, (∃ m, W 0 m σ H1) ∧ ∀ i m σ H, W i m σ H →
  (J.stop i H ∧ D.nx σ H) ∨ (J.go i H ∧ ∃ N : St → Hp → Prop, (∀ σ' H', N σ' H' → ∃ m', m' < m ∧ W (i + 1) m' σ' H') ∧ ∀ x H', J.yld i H x H' → g x σ H' fun σ2 H2 => tb { D with nx := N, ct := N, bk := D.nx } σ2 H2)
theorem r_for {wi : TI} {g : TG} {tb : TS} (k : wi σ H (forK g tb D σ)) : tFor wi g tb D σ H := k
noncomputable def rng1K (R : It → Hp → Prop) : List V → Hp → Prop := fun vs H1 => ∃ j : Int, vs = [.int j] ∧ -(2 ^ 62) ≤ j ∧ j < 2 ^ 62 ∧ R (Itr 0 j.toNat) H1
noncomputable def rng2K (R : It → Hp → Prop) : List V → Hp → Prop := fun vs H1 => ∃ i j : Int, vs = [.int i, .int j] ∧ (-(2 ^ 62) ≤ i ∧ i < 2 ^ 62 ∧ -(2 ^ 62) ≤ j ∧ j < 2 ^ 62) ∧ R (Itr i (j - i).toNat) H1
theorem r_rng1 {ta : TA} {R : It → Hp → Prop} (k : ta σ H (rng1K R)) : iRng1 ta σ H R := k
theorem r_rng2 {ta : TA} {R : It → Hp → Prop} (k : ta σ H (rng2K R)) : iRng2 ta σ H R := k
theorem r_rng1K {R : It → Hp → Prop} (h1 : -(2 ^ 62) ≤ j) (h2 : j < 2 ^ 62) (k : R (Itr 0 j.toNat) H) : rng1K R [.int j] H := ⟨j, rfl, h1, h2, k⟩
theorem r_rng2K {R : It → Hp → Prop} (h1 : -(2 ^ 62) ≤ i) (h2 : i < 2 ^ 62) (h3 : -(2 ^ 62) ≤ j) (h4 : j < 2 ^ 62) (k : R (Itr i (j - i).toNat) H) : rng2K R [.int i, .int j] H := ⟨i, j, rfl, ⟨h1, h2, h3, h4⟩, k⟩
theorem r_forR {lo : Int} {n : Nat} {g : TG} {tb : TS} (Pv : Nat → St → Hp → Prop) (h0 : Pv 0 σ H)
    (hs : ∀ i σ H, i < n → Pv i σ H → g (.int (lo + i)) σ H fun σ2 H2 => tb ⟨Pv (i + 1), D.rt, D.nx, Pv (i + 1)⟩ σ2 H2) (hd : ∀ σ H, Pv n σ H → D.nx σ H) : forK g tb D σ (Itr lo n) H := for_range Pv h0 hs hd
noncomputable def listK (K : PySem.W.Frag) (R : It → Hp → Prop) : VK := fun x H1 => ∃ a, x = .ref a ∧ (∃ xs, SqL K H1 a xs) ∧ R (Itl K a) H1
theorem r_iList {tl : TE} {R : It → Hp → Prop} (k : tl σ H (listK K R)) : iList K tl σ H R := k
theorem r_listK {a : Addr} {xs : List V} {R : It → Hp → Prop} (h : SqL K H a xs) (k : R (Itl K a) H) : listK K R (.ref a) H := ⟨a, rfl, ⟨xs, h⟩, k⟩
theorem r_forL {a : Addr} {xs : List V} {g : TG} {tb : TS} (Pv : Nat → St → Hp → Prop) (h0 : Pv 0 σ H) (hl : ∀ i σ H, i ≤ xs.length → Pv i σ H → SqL K H a xs)
    (hs : ∀ i x σ H, xs[i]? = some x → Pv i σ H → g x σ H fun σ2 H2 => tb ⟨Pv (i + 1), D.rt, D.nx, Pv (i + 1)⟩ σ2 H2) (hd : ∀ σ H, Pv xs.length σ H → D.nx σ H) : forK g tb D σ (Itl K a) H := for_list Pv h0 hl hs hd
end
end L2
namespace L2
open PySem
noncomputable def sg (t b : Int) : Int := if b < 0 then 0 - (Int.gcd t b : Int) else (Int.gcd t b : Int)
noncomputable def lowT (t b : Int) : Int := t.fdiv (sg t b)
noncomputable def lowB (t b : Int) : Int := b.fdiv (sg t b)
theorem gcd_pos {t b : Int} (h : b ≠ 0) : 0 < Int.gcd t b := Nat.pos_of_ne_zero fun e => h (Int.gcd_eq_zero_iff.mp e).2
theorem sg_ne {t b : Int} (h : b ≠ 0) : sg t b ≠ 0 := by
  have := gcd_pos (t := t) h
  unfold sg
  split <;> omega
theorem sg_dvd_l (t b : Int) : sg t b ∣ t := by
  unfold sg
  split
  · exact (Int.zero_sub _ ▸ Int.neg_dvd.mpr (Int.gcd_dvd_left ..))
  · exact Int.gcd_dvd_left ..
theorem sg_dvd_r (t b : Int) : sg t b ∣ b := by
  unfold sg
  split
  · exact (Int.zero_sub _ ▸ Int.neg_dvd.mpr (Int.gcd_dvd_right ..))
  · exact Int.gcd_dvd_right ..
theorem fdiv_of {a g : Int} (hg : g ≠ 0) (h : g ∣ a) : a.fdiv g * g = a := by
  obtain ⟨c, rfl⟩ := h
  rw [Int.mul_fdiv_cancel_left _ hg, Int.mul_comm]
theorem lowT_mul {t b : Int} (h : b ≠ 0) : lowT t b * sg t b = t := fdiv_of (sg_ne h) (sg_dvd_l t b)
theorem lowB_mul {t b : Int} (h : b ≠ 0) : lowB t b * sg t b = b := fdiv_of (sg_ne h) (sg_dvd_r t b)
theorem sg_natAbs (t b : Int) : (sg t b).natAbs = Int.gcd t b := by
  unfold sg
  split <;> omega
theorem lowB_pos {t b : Int} (h : b ≠ 0) : 0 < lowB t b := by
  have e := lowB_mul (t := t) h
  have hp := gcd_pos (t := t) h
  by_cases hb : b < 0
  · have hs : sg t b < 0 := by unfold sg; rw [if_pos hb]; omega
    rcases Int.lt_or_le 0 (lowB t b) with q | q
    · exact q
    · have : 0 ≤ lowB t b * sg t b := Int.mul_nonneg_of_nonpos_of_nonpos q (Int.le_of_lt hs)
      omega
  · have hs : 0 < sg t b := by unfold sg; rw [if_neg hb]; omega
    rcases Int.lt_or_le 0 (lowB t b) with q | q
    · exact q
    · have : lowB t b * sg t b ≤ 0 := Int.mul_nonpos_of_nonpos_of_nonneg q (Int.le_of_lt hs)
      omega
theorem low_cop {t b : Int} (h : b ≠ 0) : Int.gcd (lowT t b) (lowB t b) = 1 := by
  have e1 := lowT_mul (t := t) h
  have e2 := lowB_mul (t := t) h
  have hp := gcd_pos (t := t) h
  have e : Int.gcd (lowT t b * sg t b) (lowB t b * sg t b) = Int.gcd (lowT t b) (lowB t b) * (sg t b).natAbs := Int.gcd_mul_right ..
  rw [e1, e2, sg_natAbs] at e
  have : 1 * Int.gcd t b = Int.gcd (lowT t b) (lowB t b) * Int.gcd t b := by omega
  exact (Nat.eq_of_mul_eq_mul_right hp this).symm
theorem low_cross {t b : Int} (h : b ≠ 0) : t * lowB t b = b * lowT t b := by
  have e1 := lowT_mul (t := t) h
  have e2 := lowB_mul (t := t) h
  calc t * lowB t b = (lowT t b * sg t b) * lowB t b := by rw [e1]
    _ = (lowB t b * sg t b) * lowT t b := by rw [Int.mul_assoc, Int.mul_comm (sg t b), ← Int.mul_assoc, Int.mul_comm (lowT t b), Int.mul_assoc, Int.mul_comm (lowT t b), ← Int.mul_assoc]
    _ = b * lowT t b := by rw [e2]
theorem natAbs_le_of_mul {a g c : Int} (hg : g ≠ 0) (e : a * g = c) : a.natAbs ≤ c.natAbs := by
  rw [← e, Int.natAbs_mul]
  exact Nat.le_mul_of_pos_right _ (by omega)
theorem lowT_le {t b : Int} (h : b ≠ 0) : (lowT t b).natAbs ≤ t.natAbs := natAbs_le_of_mul (sg_ne h) (lowT_mul h)
theorem lowB_le {t b : Int} (h : b ≠ 0) : (lowB t b).natAbs ≤ b.natAbs := natAbs_le_of_mul (sg_ne h) (lowB_mul h)
theorem gcd_step {one other : Int} (h : 0 < other) : Int.gcd other (one % other) = Int.gcd one other := by
  have e : one % other = one - (one / other) * other := by rw [Int.emod_def, Int.mul_comm]
  rw [e, Int.gcd_comm other, Int.gcd_sub_mul_right_left]
theorem gcd_stepN {one other : Int} (h : other ≠ 0) : Int.gcd other (one.fmod other) = Int.gcd one other := by
  have e : one.fmod other = one - (one.fdiv other) * other := by rw [Int.fmod_def, Int.mul_comm]
  rw [e, Int.gcd_comm other, Int.gcd_sub_mul_right_left]
theorem low_same {a b : Int} (hb : 0 < b) (h : Int.gcd a b = 1) : lowT a b = a ∧ lowB a b = b := by
  have e : sg a b = 1 := by unfold sg; rw [if_neg (by omega), h]; rfl
  unfold lowT lowB
  rw [e]
  exact ⟨Int.fdiv_one _, Int.fdiv_one _⟩
theorem dvd_cop {k n m : Int} (h : k ∣ n * m) (g : Int.gcd k n = 1) : k ∣ m := by
  have q := Int.dvd_gcd_mul_iff_dvd_mul.mpr h
  rw [g] at q
  simpa using q
theorem low_uniq {a b c d : Int} (hb : 0 < b) (hd : 0 < d) (h1 : Int.gcd a b = 1) (h2 : Int.gcd c d = 1) (e : a * d = c * b) : a = c ∧ b = d := by
  have k1 : b ∣ d := by
    have : b ∣ a * d := ⟨c, by rw [e, Int.mul_comm]⟩
    exact dvd_cop this (by rw [Int.gcd_comm]; exact h1)
  have k2 : d ∣ b := by
    have : d ∣ c * b := ⟨a, by rw [← e, Int.mul_comm]⟩
    exact dvd_cop this (by rw [Int.gcd_comm]; exact h2)
  have eb : b = d := by
    have := Int.le_of_dvd hd k1
    have := Int.le_of_dvd hb k2
    omega
  subst eb
  exact ⟨Int.eq_of_mul_eq_mul_right (by omega) e, rfl⟩
theorem pick {ns : List Int} {i : Int} (h0 : 0 ≤ i) (h1 : i < ns.length) : ∃ z, z ∈ ns ∧ atI (ns.map V.int) i = some (.int z) := by
  have hk : i.toNat < ns.length := by omega
  have ek : i = ((i.toNat : Nat) : Int) := by omega
  have q : atI (ns.map V.int) ((i.toNat : Nat) : Int) = some (.int ns[i.toNat]) := atI_nat (by rw [List.getElem?_map, List.getElem?_eq_getElem hk] <;> rfl)
  rw [← ek] at q
  exact ⟨ns[i.toNat], List.getElem_mem hk, q⟩
theorem fdiv_nn {a b : Int} (ha : 0 ≤ a) (hb : 0 < b) : 0 ≤ a.fdiv b := by
  rw [Int.fdiv_eq_ediv_of_nonneg _ (Int.le_of_lt hb)]
  exact Int.ediv_nonneg ha (Int.le_of_lt hb)
theorem r_modN {i j : Int} {H : Hp} {Q : VK} (h : j ≠ 0) (k : Q (.int (i.fmod j)) H) : rI (fun _ j => j ≠ 0) (fun i j => .int (i.fmod j)) (.int i) (.int j) H Q := r_I h k
theorem fmod_lt {a b : Int} (h : b ≠ 0) : (a.fmod b).natAbs < b.natAbs := by
  have e := Int.fmod_eq_emod (a := a) (b := b)
  have h1 := Int.emod_nonneg a h
  have h2 := Int.emod_lt a h
  rw [e]
  by_cases hc : 0 ≤ b ∨ b ∣ a
  · rw [if_pos hc]
    omega
  · rw [if_neg hc]
    have h3 : a % b ≠ 0 := fun z => hc (.inr (Int.dvd_of_emod_eq_zero z))
    omega
noncomputable def frV : V → V → Bool
  | .int a, .int b => decide (1 ≤ b) && decide (Int.gcd a b = 1)
  | _, _ => false
theorem low_worth {t b : Int} (h : b ≠ 0) : lowT t b * b = t * lowB t b := by rw [low_cross h, Int.mul_comm]
theorem low_of {t b f g : Int} (hb : b ≠ 0) (hg : 0 < g) (hc : Int.gcd f g = 1) (e : f * b = t * g) : f = lowT t b ∧ g = lowB t b := by
  have e1 := low_worth (t := t) hb
  have hp := lowB_pos (t := t) hb
  refine low_uniq hg hp hc (low_cop hb) ?_
  have : (f * lowB t b) * b = (lowT t b * g) * b := by
    have a1 : (f * lowB t b) * b = (f * b) * lowB t b := by rw [Int.mul_assoc, Int.mul_comm (lowB t b), ← Int.mul_assoc]
    have a2 : (lowT t b * g) * b = (lowT t b * b) * g := by rw [Int.mul_assoc, Int.mul_comm g, ← Int.mul_assoc]
    rw [a1, a2, e, e1, Int.mul_assoc, Int.mul_comm g, ← Int.mul_assoc]
  exact Int.eq_of_mul_eq_mul_right hb this
end L2
namespace L2
open PySem PySem.Spec PyProof.Rows
inductive Dt where
  | non | bl (b : Bool) | int (i : Int) | str (x : Str) | tup (xs : List Dt) | lst (xs : List Dt)
mutual
noncomputable def Den (H : Hp) : Dt → V → Prop
  | .non, v => v = .non
  | .bl b, v => v = .bl b
  | .int i, v => v = .int i
  | .str x, v => v = .str x
  | .tup ds, v => ∃ p vs, v = .ref p ∧ H p = some (.tup vs) ∧ DenL H ds vs
  | .lst ds, v => ∃ p vs, v = .ref p ∧ H p = some (.lst vs) ∧ DenL H ds vs
noncomputable def DenL (H : Hp) : List Dt → List V → Prop
  | [], vs => vs = []
  | d :: ds, vs => ∃ v r, vs = v :: r ∧ Den H d v ∧ DenL H ds r
end
mutual
noncomputable def deq : Dt → Dt → Bool
  | .non, .non => true
  | .bl a, .bl b => a == b
  | .bl a, .int b => (if a then 1 else 0) == b
  | .int a, .bl b => a == (if b then 1 else 0)
  | .int a, .int b => a == b
  | .str a, .str b => a == b
  | .tup xs, .tup ys => deqL xs ys
  | .lst xs, .lst ys => deqL xs ys
  | _, _ => false
noncomputable def deqL : List Dt → List Dt → Bool
  | [], [] => true
  | x :: xs, y :: ys => deq x y && deqL xs ys
  | _, _ => false
end
mutual
noncomputable def dep : Dt → Nat
  | .tup xs => depL xs + 1
  | .lst xs => depL xs + 1
  | _ => 0
noncomputable def depL : List Dt → Nat
  | [] => 0
  | x :: xs => max (dep x) (depL xs)
end
theorem DenL.length {H : Hp} : ∀ {ds : List Dt} {vs : List V}, DenL H ds vs → ds.length = vs.length
  | [], vs, h => by rw [show vs = [] from h]; rfl
  | d :: ds, vs, h => by
    obtain ⟨v, r, rfl, _, t⟩ := h
    rw [List.length_cons, List.length_cons, DenL.length t]
mutual
theorem Den.same_eq {H : Hp} : ∀ (d e : Dt) {x : V}, Den H d x → Den H e x → deq d e = true
  | .tup ds, .tup es, x, h1, h2 => by
    obtain ⟨p, vs, rfl, a, b⟩ := h1
    obtain ⟨q, ws, e1, c, d⟩ := h2
    cases e1
    rw [a] at c
    cases c
    exact DenL.same_eq ds es b d
  | .lst ds, .lst es, x, h1, h2 => by
    obtain ⟨p, vs, rfl, a, b⟩ := h1
    obtain ⟨q, ws, e1, c, d⟩ := h2
    cases e1
    rw [a] at c
    cases c
    exact DenL.same_eq ds es b d
  | .tup ds, .lst es, x, h1, h2 => by
    obtain ⟨p, vs, rfl, a, b⟩ := h1
    obtain ⟨q, ws, e1, c, d⟩ := h2
    cases e1
    rw [a] at c
    cases c
  | .lst ds, .tup es, x, h1, h2 => by
    obtain ⟨p, vs, rfl, a, b⟩ := h1
    obtain ⟨q, ws, e1, c, d⟩ := h2
    cases e1
    rw [a] at c
    cases c
  | .non, e, x, h1, h2 => by
    have h1 : x = .non := h1
    subst h1
    cases e <;> first | rfl | (have h2 : V.non = _ := h2; cases h2) | (obtain ⟨_, _, z, _⟩ := h2; cases z)
  | .bl b, e, x, h1, h2 => by
    have h1 : x = .bl b := h1
    subst h1
    cases e <;> first | (have h2 : V.bl b = _ := h2; cases h2; exact beq_self_eq_true b) | (have h2 : V.bl b = _ := h2; cases h2; done) | (obtain ⟨_, _, z, _⟩ := h2; cases z)
  | .int b, e, x, h1, h2 => by
    have h1 : x = .int b := h1
    subst h1
    cases e <;> first | (have h2 : V.int b = _ := h2; cases h2; exact beq_self_eq_true b) | (have h2 : V.int b = _ := h2; cases h2; done) | (obtain ⟨_, _, z, _⟩ := h2; cases z)
  | .str b, e, x, h1, h2 => by
    have h1 : x = .str b := h1
    subst h1
    cases e <;> first | (have h2 : V.str b = _ := h2; cases h2; exact beq_self_eq_true b) | (have h2 : V.str b = _ := h2; cases h2; done) | (obtain ⟨_, _, z, _⟩ := h2; cases z)
  | .tup ds, .non, x, h1, h2 => by obtain ⟨p, vs, rfl, _⟩ := h1; have h2 : V.ref p = _ := h2; cases h2
  | .tup ds, .bl _, x, h1, h2 => by obtain ⟨p, vs, rfl, _⟩ := h1; have h2 : V.ref p = _ := h2; cases h2
  | .tup ds, .int _, x, h1, h2 => by obtain ⟨p, vs, rfl, _⟩ := h1; have h2 : V.ref p = _ := h2; cases h2
  | .tup ds, .str _, x, h1, h2 => by obtain ⟨p, vs, rfl, _⟩ := h1; have h2 : V.ref p = _ := h2; cases h2
  | .lst ds, .non, x, h1, h2 => by obtain ⟨p, vs, rfl, _⟩ := h1; have h2 : V.ref p = _ := h2; cases h2
  | .lst ds, .bl _, x, h1, h2 => by obtain ⟨p, vs, rfl, _⟩ := h1; have h2 : V.ref p = _ := h2; cases h2
  | .lst ds, .int _, x, h1, h2 => by obtain ⟨p, vs, rfl, _⟩ := h1; have h2 : V.ref p = _ := h2; cases h2
  | .lst ds, .str _, x, h1, h2 => by obtain ⟨p, vs, rfl, _⟩ := h1; have h2 : V.ref p = _ := h2; cases h2
theorem DenL.same_eq {H : Hp} : ∀ (ds es : List Dt) {xs : List V}, DenL H ds xs → DenL H es xs → deqL ds es = true
  | [], [], xs, _, _ => rfl
  | [], e :: es, xs, h1, h2 => by
    have h1 : xs = [] := h1
    subst h1
    obtain ⟨_, _, z, _⟩ := h2
    cases z
  | d :: ds, [], xs, h1, h2 => by
    have h2 : xs = [] := h2
    subst h2
    obtain ⟨_, _, z, _⟩ := h1
    cases z
  | d :: ds, e :: es, xs, h1, h2 => by
    obtain ⟨v, r, rfl, a, b⟩ := h1
    obtain ⟨v', r', z, a', b'⟩ := h2
    cases z
    show (deq d e && deqL ds es) = true
    rw [Den.same_eq d e a a', DenL.same_eq ds es b b']
    rfl
end
noncomputable def nth (ds es : List Dt) (j : Nat) : Bool := match ds[j]?, es[j]? with
  | some d, some e => deq d e
  | _, _ => false
theorem deqL_all : ∀ (ds es : List Dt), ((List.range (min ds.length es.length)).all (nth ds es) && ds.length == es.length) = deqL ds es
  | [], [] => rfl
  | [], e :: es => by show (_ && (0 == es.length + 1)) = false; simp
  | d :: ds, [] => by show (_ && (ds.length + 1 == 0)) = false; simp
  | d :: ds, e :: es => by
    have ih := deqL_all ds es
    show _ = (deq d e && deqL ds es)
    rw [← ih]
    have h1 : min (d :: ds).length (e :: es).length = min ds.length es.length + 1 := by simp only [List.length_cons]; omega
    rw [h1, List.range_succ_eq_map, List.all_cons, List.all_map]
    have h2 : (nth (d :: ds) (e :: es)) ∘ Nat.succ = nth ds es := by funext j; rfl
    rw [h2]
    have h3 : nth (d :: ds) (e :: es) 0 = deq d e := rfl
    rw [h3]
    have h4 : ((d :: ds).length == (e :: es).length) = (ds.length == es.length) := by simp
    rw [h4, Bool.and_assoc]
section
variable {X : Cx} {pins : List (Addr × Obj)} {σ : St} {H : Hp} {s : Shared}
theorem tup_at (I : Inv X pins σ H s) {p : Addr} {vs : List V} (h : H p = some (.tup vs)) : ∃ its : List Value, Vals vs its ∧ s.heap.IsTuple p its.toArray := by
  obtain ⟨_, its, r, q⟩ := (show ObjOk X.prog X.w H s.heap p (.tup vs) from I.hok p _ h)
  exact ⟨its, r, q⟩
theorem lst_at (I : Inv X pins σ H s) {p : Addr} {vs : List V} (h : H p = some (.lst vs)) : ∃ its : List Value, Vals vs its ∧ s.heap.IsList p its.toArray := by
  obtain ⟨_, its, n, r, q⟩ := (show ObjOk X.prog X.w H s.heap p (.lst vs) from I.hok p _ h)
  exact ⟨its, r, _, q, rfl, _, rfl⟩
theorem in1_tup {A : Around} {ds : List Dt} (h : A.units + dep (.tup ds) < cLine) : A.in1.units + depL ds < cLine := by
  have e : dep (.tup ds) = depL ds + 1 := by simp [dep]
  show A.units + 1 + depL ds < cLine
  omega
theorem in1_lst {A : Around} {ds : List Dt} (h : A.units + dep (.lst ds) < cLine) : A.in1.units + depL ds < cLine := by
  have e : dep (.lst ds) = depL ds + 1 := by simp [dep]
  show A.units + 1 + depL ds < cLine
  omega
mutual
theorem eqAt_D (I : Inv X pins σ H s) : ∀ (d e : Dt) {x y : V} {u v : Value} {A : Around}, Den H d x → Den H e y → RelV x u → RelV y v → A.units + dep d < cLine → SeqAt.EqAt A s u v (deq d e)
  | .tup ds, e, x, y, u, v, A, h1, h2, rx, ry, hu => by
    obtain ⟨p, vs, rfl, a, b⟩ := h1
    cases rx
    obtain ⟨its, r, t⟩ := tup_at I a
    have hu' : A.units < cLine := by omega
    cases e with
    | tup es =>
      obtain ⟨q, ws, rfl, a', b'⟩ := id h2
      cases ry
      by_cases hne : p = q
      · subst hne
        have := Den.same_eq (.tup ds) (.tup es) (x := .ref p) ⟨p, vs, rfl, a, b⟩ h2
        rw [this]
        exact SeqAt.EqAt.same _
      · obtain ⟨its', r', t'⟩ := tup_at I a'
        have z := SeqAt.RcAt.tuples (e := nth ds es) t t' hu' (fun j g1 g2 => eqAt_L I ds es b b' r r' (in1_tup hu) j (by simpa using g1) (by simpa using g2))
        have l1 : its.length = ds.length := by rw [b.length, r.length]
        have l2 : its'.length = es.length := by rw [b'.length, r'.length]
        rw [List.size_toArray, List.size_toArray, l1, l2, deqL_all] at z
        exact SeqAt.EqAt.of_refs hne z
    | lst es =>
      obtain ⟨q, ws, rfl, a', b'⟩ := id h2
      cases ry
      obtain ⟨its', r', t'⟩ := lst_at I a'
      exact SeqAt.EqAt.tuple_list t t' hu'
    | non => cases (show y = .non from h2); cases ry; exact SeqAt.EqAt.tuple_none t hu'
    | bl b => cases (show y = .bl b from h2); cases ry; exact SeqAt.EqAt.tuple_bool b t hu'
    | int b => cases (show y = .int b from h2); obtain ⟨tk, rfl⟩ := ry; exact SeqAt.EqAt.tuple_int b tk t hu'
    | str b => cases (show y = .str b from h2); obtain ⟨tk, rfl⟩ := ry; exact SeqAt.EqAt.tuple_str b tk t hu'
  | .lst ds, e, x, y, u, v, A, h1, h2, rx, ry, hu => by
    obtain ⟨p, vs, rfl, a, b⟩ := h1
    cases rx
    obtain ⟨its, r, t⟩ := lst_at I a
    have hu' : A.units < cLine := by omega
    cases e with
    | lst es =>
      obtain ⟨q, ws, rfl, a', b'⟩ := id h2
      cases ry
      by_cases hne : p = q
      · subst hne
        have := Den.same_eq (.lst ds) (.lst es) (x := .ref p) ⟨p, vs, rfl, a, b⟩ h2
        rw [this]
        exact SeqAt.EqAt.same _
      · obtain ⟨its', r', t'⟩ := lst_at I a'
        have l1 : its.length = ds.length := by rw [b.length, r.length]
        have l2 : its'.length = es.length := by rw [b'.length, r'.length]
        by_cases hl : ds.length = es.length
        · have z := SeqAt.RcAt.lists (e := nth ds es) t t' (by rw [List.size_toArray, List.size_toArray, l1, l2, hl]) hu' (fun j g1 g2 => eqAt_L I ds es b b' r r' (in1_lst hu) j (by simpa using g1) (by simpa using g2))
          have e1 := deqL_all ds es
          rw [hl, Nat.min_self, beq_self_eq_true, Bool.and_true] at e1
          rw [List.size_toArray, l1, hl, e1] at z
          exact SeqAt.EqAt.of_refs hne z
        · have z := SeqAt.RcAt.lists_lengths t t' (by rw [List.size_toArray, List.size_toArray, l1, l2]; simpa using hl) hu'
          have e1 := deqL_all ds es
          rw [show (ds.length == es.length) = false from by simpa using hl, Bool.and_false] at e1
          have e2 : deq (.lst ds) (.lst es) = false := by show deqL ds es = false; exact e1.symm
          rw [e2]
          exact SeqAt.EqAt.of_refs hne z
    | tup es =>
      obtain ⟨q, ws, rfl, a', b'⟩ := id h2
      cases ry
      obtain ⟨its', r', t'⟩ := tup_at I a'
      exact SeqAt.EqAt.list_tuple t t' hu'
    | non => cases (show y = .non from h2); cases ry; exact SeqAt.EqAt.list_none t hu'
    | bl b => cases (show y = .bl b from h2); cases ry; exact SeqAt.EqAt.list_bool b t hu'
    | int b => cases (show y = .int b from h2); obtain ⟨tk, rfl⟩ := ry; exact SeqAt.EqAt.list_int b tk t hu'
    | str b => cases (show y = .str b from h2); obtain ⟨tk, rfl⟩ := ry; exact SeqAt.EqAt.list_str b tk t hu'
  | .non, e, x, y, u, v, A, h1, h2, rx, ry, hu => by
    cases (show x = .non from h1); cases rx
    have hu' : A.units < cLine := by omega
    cases e with
    | tup es => obtain ⟨q, ws, rfl, a', b'⟩ := id h2; cases ry; obtain ⟨its', r', t'⟩ := tup_at I a'; exact SeqAt.EqAt.none_tuple t' hu'
    | lst es => obtain ⟨q, ws, rfl, a', b'⟩ := id h2; cases ry; obtain ⟨its', r', t'⟩ := lst_at I a'; exact SeqAt.EqAt.none_list t' hu'
    | non => cases (show y = .non from h2); cases ry; exact SeqAt.EqAt.same _
    | bl b => cases (show y = .bl b from h2); cases ry; exact SeqAt.EqAt.none_bool b
    | int b => cases (show y = .int b from h2); obtain ⟨tk, rfl⟩ := ry; exact SeqAt.EqAt.none_int b tk
    | str b => cases (show y = .str b from h2); obtain ⟨tk, rfl⟩ := ry; exact SeqAt.EqAt.none_str b tk
  | .bl c, e, x, y, u, v, A, h1, h2, rx, ry, hu => by
    cases (show x = .bl c from h1); cases rx
    have hu' : A.units < cLine := by omega
    cases e with
    | tup es => obtain ⟨q, ws, rfl, a', b'⟩ := id h2; cases ry; obtain ⟨its', r', t'⟩ := tup_at I a'; exact SeqAt.EqAt.bool_tuple c t' hu'
    | lst es => obtain ⟨q, ws, rfl, a', b'⟩ := id h2; cases ry; obtain ⟨its', r', t'⟩ := lst_at I a'; exact SeqAt.EqAt.bool_list c t' hu'
    | non => cases (show y = .non from h2); cases ry; exact SeqAt.EqAt.bool_none c
    | bl b => cases (show y = .bl b from h2); cases ry; exact SeqAt.EqAt.bool_bool c b
    | int b => cases (show y = .int b from h2); obtain ⟨tk, rfl⟩ := ry; exact SeqAt.EqAt.bool_int c b tk
    | str b => cases (show y = .str b from h2); obtain ⟨tk, rfl⟩ := ry; exact SeqAt.EqAt.bool_str c b tk
  | .int c, e, x, y, u, v, A, h1, h2, rx, ry, hu => by
    cases (show x = .int c from h1); obtain ⟨tc, rfl⟩ := rx
    have hu' : A.units < cLine := by omega
    cases e with
    | tup es => obtain ⟨q, ws, rfl, a', b'⟩ := id h2; cases ry; obtain ⟨its', r', t'⟩ := tup_at I a'; exact SeqAt.EqAt.int_tuple c tc t' hu'
    | lst es => obtain ⟨q, ws, rfl, a', b'⟩ := id h2; cases ry; obtain ⟨its', r', t'⟩ := lst_at I a'; exact SeqAt.EqAt.int_list c tc t' hu'
    | non => cases (show y = .non from h2); cases ry; exact SeqAt.EqAt.int_none c tc
    | bl b => cases (show y = .bl b from h2); cases ry; exact SeqAt.EqAt.int_bool c tc b
    | int b => cases (show y = .int b from h2); obtain ⟨tk, rfl⟩ := ry; exact SeqAt.EqAt.int_int c tc b tk
    | str b => cases (show y = .str b from h2); obtain ⟨tk, rfl⟩ := ry; exact SeqAt.EqAt.int_str c tc b tk
  | .str c, e, x, y, u, v, A, h1, h2, rx, ry, hu => by
    cases (show x = .str c from h1); obtain ⟨tc, rfl⟩ := rx
    have hu' : A.units < cLine := by omega
    cases e with
    | tup es => obtain ⟨q, ws, rfl, a', b'⟩ := id h2; cases ry; obtain ⟨its', r', t'⟩ := tup_at I a'; exact SeqAt.EqAt.str_tuple c tc t' hu'
    | lst es => obtain ⟨q, ws, rfl, a', b'⟩ := id h2; cases ry; obtain ⟨its', r', t'⟩ := lst_at I a'; exact SeqAt.EqAt.str_list c tc t' hu'
    | non => cases (show y = .non from h2); cases ry; exact SeqAt.EqAt.str_none c tc
    | bl b => cases (show y = .bl b from h2); cases ry; exact SeqAt.EqAt.str_bool c tc b
    | int b => cases (show y = .int b from h2); obtain ⟨tk, rfl⟩ := ry; exact SeqAt.EqAt.str_int c tc b tk
    | str b => cases (show y = .str b from h2); obtain ⟨tk, rfl⟩ := ry; exact SeqAt.EqAt.str_str c tc b tk
theorem eqAt_L (I : Inv X pins σ H s) : ∀ (ds es : List Dt) {xs ys : List V} {us vs : List Value} {A : Around}, DenL H ds xs → DenL H es ys → Vals xs us → Vals ys vs → A.units + depL ds < cLine →
    ∀ (j : Nat) (g1 : j < us.length) (g2 : j < vs.length), SeqAt.EqAt A s us[j] vs[j] (nth ds es j)
  | [], es, xs, ys, us, vs, A, h1, h2, r1, r2, hu => fun j g1 g2 => by
    have h1 : xs = [] := h1
    subst h1
    cases r1
    exact absurd g1 (Nat.not_lt_zero _)
  | d :: ds, [], xs, ys, us, vs, A, h1, h2, r1, r2, hu => fun j g1 g2 => by
    have h2 : ys = [] := h2
    subst h2
    cases r2
    exact absurd g2 (Nat.not_lt_zero _)
  | d :: ds, e :: es, xs, ys, us, vs, A, h1, h2, r1, r2, hu => fun j g1 g2 => by
    obtain ⟨x, xr, rfl, a, b⟩ := h1
    obtain ⟨y, yr, rfl, a', b'⟩ := h2
    cases r1 with
    | cons rx r1 =>
      cases r2 with
      | cons ry r2 =>
        have hd : depL (d :: ds) = max (dep d) (depL ds) := by simp [depL]
        cases j with
        | zero => exact eqAt_D I d e a a' rx ry (by omega)
        | succ j => exact eqAt_L I ds es b b' r1 r2 (by omega) j (by simpa using g1) (by simpa using g2)
end
noncomputable def rEqD : R2 := fun x y H Q => ∃ d e, Den H d x ∧ Den H e y ∧ dep d ≤ 60 ∧ ((∃ ds es, d = .tup ds ∧ e = .tup es) ∨ ∃ ds es, d = .lst ds ∧ e = .lst es) ∧ Q (.bl (deq d e)) H
noncomputable def rNeD : R2 := fun x y H Q => ∃ d e, Den H d x ∧ Den H e y ∧ dep d ≤ 60 ∧ ((∃ ds es, d = .tup ds ∧ e = .tup es) ∨ ∃ ds es, d = .lst ds ∧ e = .lst es) ∧ Q (.bl (!deq d e)) H
theorem op_eqD (hu : X.A.units + 64 < cLine) : OpR X (compareOp .Eq) rEqD := by
  intro pins s σ H x y v u Q I rx ry h
  obtain ⟨d, e, h1, h2, hd, k, q⟩ := h
  rcases k with ⟨ds, es, rfl, rfl⟩ | ⟨ds, es, rfl, rfl⟩
  · obtain ⟨p, vs, rfl, a, b⟩ := h1
    obtain ⟨p', ws, rfl, a', b'⟩ := h2
    cases rx
    cases ry
    obtain ⟨its, r, t⟩ := tup_at I a
    obtain ⟨its', r', t'⟩ := tup_at I a'
    have z := SeqAt.RcAt.tuples (A := X.A) (e := nth ds es) t t' (by omega) (fun j g1 g2 => eqAt_L I ds es b b' r r' (in1_tup (by omega)) j (by simpa using g1) (by simpa using g2))
    have l1 : its.length = ds.length := by rw [b.length, r.length]
    have l2 : its'.length = es.length := by rw [b'.length, r'.length]
    rw [List.size_toArray, List.size_toArray, l1, l2, deqL_all] at z
    exact z _ _ _ _ ⟨.bl _, H, I, rfl, q⟩
  · obtain ⟨p, vs, rfl, a, b⟩ := h1
    obtain ⟨p', ws, rfl, a', b'⟩ := h2
    cases rx
    cases ry
    obtain ⟨its, r, t⟩ := lst_at I a
    obtain ⟨its', r', t'⟩ := lst_at I a'
    have l1 : its.length = ds.length := by rw [b.length, r.length]
    have l2 : its'.length = es.length := by rw [b'.length, r'.length]
    by_cases hl : ds.length = es.length
    · have z := SeqAt.RcAt.lists (A := X.A) (e := nth ds es) t t' (by rw [List.size_toArray, List.size_toArray, l1, l2, hl]) (by omega) (fun j g1 g2 => eqAt_L I ds es b b' r r' (in1_lst (by omega)) j (by simpa using g1) (by simpa using g2))
      have e1 := deqL_all ds es
      rw [hl, Nat.min_self, beq_self_eq_true, Bool.and_true] at e1
      rw [List.size_toArray, l1, hl, e1] at z
      exact z _ _ _ _ ⟨.bl _, H, I, rfl, q⟩
    · have z := SeqAt.RcAt.lists_lengths (A := X.A) t t' (by rw [List.size_toArray, List.size_toArray, l1, l2]; simpa using hl) (by omega)
      have e1 := deqL_all ds es
      rw [show (ds.length == es.length) = false from by simpa using hl, Bool.and_false] at e1
      have e2 : deq (.lst ds) (.lst es) = false := by show deqL ds es = false; exact e1.symm
      rw [e2] at q
      exact z _ _ _ _ ⟨.bl _, H, I, rfl, q⟩
theorem op_neD (hu : X.A.units + 64 < cLine) : OpR X (compareOp .NotEq) rNeD := by
  intro pins s σ H x y v u Q I rx ry h
  obtain ⟨d, e, h1, h2, hd, k, q⟩ := h
  rcases k with ⟨ds, es, rfl, rfl⟩ | ⟨ds, es, rfl, rfl⟩
  · obtain ⟨p, vs, rfl, a, b⟩ := h1
    obtain ⟨p', ws, rfl, a', b'⟩ := h2
    cases rx
    cases ry
    obtain ⟨its, r, t⟩ := tup_at I a
    obtain ⟨its', r', t'⟩ := tup_at I a'
    have z := SeqAt.RcNeAt.tuples (A := X.A) (e := nth ds es) t t' (by omega) (fun j g1 g2 => eqAt_L I ds es b b' r r' (in1_tup (by omega)) j (by simpa using g1) (by simpa using g2))
    have l1 : its.length = ds.length := by rw [b.length, r.length]
    have l2 : its'.length = es.length := by rw [b'.length, r'.length]
    rw [List.size_toArray, List.size_toArray, l1, l2, deqL_all] at z
    exact z _ _ _ _ ⟨.bl _, H, I, rfl, q⟩
  · obtain ⟨p, vs, rfl, a, b⟩ := h1
    obtain ⟨p', ws, rfl, a', b'⟩ := h2
    cases rx
    cases ry
    obtain ⟨its, r, t⟩ := lst_at I a
    obtain ⟨its', r', t'⟩ := lst_at I a'
    have l1 : its.length = ds.length := by rw [b.length, r.length]
    have l2 : its'.length = es.length := by rw [b'.length, r'.length]
    by_cases hl : ds.length = es.length
    · have z := SeqAt.RcNeAt.lists (A := X.A) (e := nth ds es) t t' (by rw [List.size_toArray, List.size_toArray, l1, l2, hl]) (by omega) (fun j g1 g2 => eqAt_L I ds es b b' r r' (in1_lst (by omega)) j (by simpa using g1) (by simpa using g2))
      have e1 := deqL_all ds es
      rw [hl, Nat.min_self, beq_self_eq_true, Bool.and_true] at e1
      rw [List.size_toArray, l1, hl, e1] at z
      exact z _ _ _ _ ⟨.bl _, H, I, rfl, q⟩
    · have z := SeqAt.RcNeAt.lists_lengths (A := X.A) t t' (by rw [List.size_toArray, List.size_toArray, l1, l2]; simpa using hl) (by omega)
      have e1 := deqL_all ds es
      rw [show (ds.length == es.length) = false from by simpa using hl, Bool.and_false] at e1
      have e2 : deq (.lst ds) (.lst es) = false := by show deqL ds es = false; exact e1.symm
      rw [e2] at q
      exact z _ _ _ _ ⟨.bl _, H, I, rfl, q⟩
noncomputable def rEqA : R2 := fun x y H Q => rEq x y H Q ∨ rEqD x y H Q
noncomputable def rNeA : R2 := fun x y H Q => rNe x y H Q ∨ rNeD x y H Q
theorem op_eqA (hu : X.A.units + 64 < cLine) : OpR X (compareOp .Eq) rEqA := op_eq.or (op_eqD hu)
theorem op_neA (hu : X.A.units + 64 < cLine) : OpR X (compareOp .NotEq) rNeA := op_ne.or (op_neD hu)
end
section
variable {H : Hp} {Q : VK} {i j : Int} {b c : Bool} {x y : Str} {u v : V}
theorem e_int (k : Q (.bl (decide (i = j))) H) : rEqA (.int i) (.int j) H Q := .inl (r_eqI k)
theorem n_int (k : Q (.bl (!decide (i = j))) H) : rNeA (.int i) (.int j) H Q := .inl (r_neI k)
theorem e_str (k : Q (.bl (x == y)) H) : rEqA (.str x) (.str y) H Q := .inl ⟨rfl, by rw [dec_str]; exact k⟩
theorem n_str (k : Q (.bl (!(x == y))) H) : rNeA (.str x) (.str y) H Q := .inl ⟨rfl, by rw [dec_str]; exact k⟩
theorem e_tup {ds es : List Dt} (h1 : Den H (.tup ds) u) (h2 : Den H (.tup es) v) (hd : depL ds ≤ 50) (k : Q (.bl (deqL ds es)) H) : rEqA u v H Q :=
  .inr ⟨_, _, h1, h2, by simp [dep]; omega, .inl ⟨_, _, rfl, rfl⟩, k⟩
theorem e_lst {ds es : List Dt} (h1 : Den H (.lst ds) u) (h2 : Den H (.lst es) v) (hd : depL ds ≤ 50) (k : Q (.bl (deqL ds es)) H) : rEqA u v H Q :=
  .inr ⟨_, _, h1, h2, by simp [dep]; omega, .inr ⟨_, _, rfl, rfl⟩, k⟩
theorem n_lst {ds es : List Dt} (h1 : Den H (.lst ds) u) (h2 : Den H (.lst es) v) (hd : depL ds ≤ 50) (k : Q (.bl (!deqL ds es)) H) : rNeA u v H Q :=
  .inr ⟨_, _, h1, h2, by simp [dep]; omega, .inr ⟨_, _, rfl, rfl⟩, k⟩
theorem den2 {p : Addr} {a b : Int} (h : H p = some (.tup [.int a, .int b])) : Den H (.tup [.int a, .int b]) (.ref p) := ⟨p, _, rfl, h, _, _, rfl, rfl, _, _, rfl, rfl, rfl⟩
theorem deq2 (a b c d : Int) : deqL [.int a, .int b] [.int c, .int d] = decide (a = c ∧ b = d) := by
  show ((a == c) && ((b == d) && true)) = _
  rw [Bool.and_true, Bool.decide_and, Bool.beq_eq_decide_eq, Bool.beq_eq_decide_eq]
theorem e_2 {p q : Addr} {a b c d : Int} (h1 : H p = some (.tup [.int a, .int b])) (h2 : H q = some (.tup [.int c, .int d])) (k : Q (.bl (decide (a = c ∧ b = d))) H) : rEqA (.ref p) (.ref q) H Q :=
  e_tup (den2 h1) (den2 h2) (by simp [depL, dep]) (by rw [deq2]; exact k)
end
end L2
namespace L2
open PySem PySem.Spec PyProof.Rows
section
variable {X : Cx} {K : PySem.W.Frag} {H H' : Hp} {Q : VK} {i j : Int} {σ : St}
noncomputable def rAddS : R2 := fun x y H Q => ∃ i j, x = .str i ∧ y = .str j ∧ i.length + j.length ≤ sizeLine ∧ Q (.str (i ++ j)) H
theorem op_addS : OpR X (binaryOp .Add) rAddS := op_add_str
noncomputable def rAddA (K : PySem.W.Frag) : R2 := fun x y H Q => rI0 (fun i j => .int (i + j)) x y H Q ∨ rCat x y H Q ∨ rCatT K x y H Q ∨ rAddS x y H Q
theorem op_addA : OpR X (binaryOp .Add) (rAddA X.K) := op_add.or (op_cat.or (op_catT.or op_addS))
theorem a_int (k : Q (.int (i + j)) H) : rAddA K (.int i) (.int j) H Q := .inl (r_I0 k)
theorem a_lst {p q : Addr} {xs ys : List V} (h1 : H p = some (.lst xs)) (h2 : H q = some (.lst ys)) (hl : xs.length + ys.length ≤ 1000) (k : ∀ l, H l = none → Q (.ref l) (upd H l (.lst (xs ++ ys)))) : rAddA K (.ref p) (.ref q) H Q :=
  .inr (.inl ⟨p, q, xs, ys, rfl, rfl, h1, h2, le_line hl, k⟩)
theorem a_tup {p q : Addr} {xs ys : List V} (h1 : H p = some (.tup xs)) (h2 : H q = some (.tup ys)) (hl : xs.length + ys.length ≤ 1000) (hx : xs ≠ []) (hy : ys ≠ []) (k : ∀ l, H l = none → Q (.ref l) (upd H l (.tup (xs ++ ys)))) : rAddA K (.ref p) (.ref q) H Q :=
  .inr (.inr (.inl ⟨p, q, xs, ys, rfl, rfl, SqT.of h1, SqT.of h2, hx, le_line hl, fun e => absurd e hy, fun _ => k⟩))
noncomputable def rSlA (K : PySem.W.Frag) : V → Option Int → Option Int → Hp → VK → Prop := fun x lo hi H Q => rSlL K x lo hi H Q ∨ rSlT K x lo hi H Q
theorem sl_any : SlR X (rSlA X.K) := sl_list.or sl_tup
noncomputable def partK (R : Option Int → Hp → Prop) : VK := fun x H1 => ∃ i, x = .int i ∧ R (some i) H1
theorem r_part {t : TE} {R : Option Int → Hp → Prop} (k : t σ H (partK R)) : tPart t σ H R := k
theorem r_partK {R : Option Int → Hp → Prop} (k : R (some i) H) : partK R (.int i) H := ⟨i, rfl, k⟩
theorem r_nopart {R : Option Int → Hp → Prop} (k : R none H) : tNoPart σ H R := k
theorem r_sl {r : V → Option Int → Option Int → Hp → VK → Prop} {te : TE} {tl th : TO} (k : te σ H fun x H1 => tl σ H1 fun l H2 => th σ H2 fun u H3 => r x l u H3 Q) : tSl r te tl th σ H Q := k
theorem s_lst {p : Addr} {xs : List V} {lo hi : Option Int} (h : H p = some (.lst xs)) (k : ∀ l, H l = none → Q (.ref l) (upd H l (.lst (cutV xs lo hi)))) : rSlA K (.ref p) lo hi H Q := .inl ⟨p, xs, rfl, SqL.of h, k⟩
theorem s_tup {p : Addr} {xs : List V} {lo hi : Option Int} (h : H p = some (.tup xs)) (hn : ¬ (HT.sIx xs.length 0 lo = 0 ∧ HT.sIx xs.length xs.length hi = xs.length)) (k : ∀ l, H l = none → Q (.ref l) (upd H l (.tup (cutV xs lo hi)))) : rSlA K (.ref p) lo hi H Q :=
  .inr ⟨p, xs, rfl, SqT.of h, hn, k⟩
theorem upd_old {H : Hp} {q b : Addr} {o u : HO} (hq : H q = none) (h : H b = some u) : upd H q o b = some u := by rw [upd_ne (ne_of_none h hq)]; exact h
noncomputable def isI : V → Bool
  | .int _ => true
  | _ => false
theorem flat_ty {v : V} (h : flatV v = true) : ∃ t b c, TyOf K H v t ∧ PySem.W.kitOne K t (.type "int") = some b ∧ PySem.W.kitOne K t (.type "bool") = some c ∧ (b && !c) = isI v := by
  cases v with
  | non => exact ⟨_, _, _, .non, kit_NoneType_int, kit_NoneType_bool, rfl⟩
  | bl b => exact ⟨_, _, _, .bl b, kit_bool_int, kit_bool_bool, rfl⟩
  | int b => exact ⟨_, _, _, .int b, kit_int_int, kit_int_bool, rfl⟩
  | str b => exact ⟨_, _, _, .str b, kit_str_int, kit_str_bool, rfl⟩
  | _ => exact absurd (show false = true from h) Bool.false_ne_true
noncomputable def NT (K : PySem.W.Frag) (H : Hp) (x : V) : Prop := ∃ t, TyOf K H x t ∧ PySem.W.kitOne K t (.type "tuple") = some false
noncomputable def Frq (K : PySem.W.Frag) (H : Hp) (x : V) (r : Bool) : Prop :=
  (NT K H x ∧ r = false) ∨ (∃ p xs, x = .ref p ∧ H p = some (.tup xs) ∧ xs.length ≠ 2 ∧ r = false) ∨
    ∃ p v w, x = .ref p ∧ H p = some (.tup [v, w]) ∧ flatV v = true ∧ flatV w = true ∧ (∀ a b, v = .int a → w = .int b → Sm 8000 a ∧ Sm 8000 b) ∧ r = frV v w
end
end L2
namespace L2
open PySem PySem.Spec PyProof.Rows
noncomputable def cxComp (X : Cx) (scope : Scope) (cl : List (Str × Addr)) (N : List Str) (C : Addr) (s0 : Shared) (H0 : Hp) (ex : List Addr) : Cx :=
  { X with N := N, s₀ := s0, H₀ := H0, env := compEnvC scope cl C X.env, outer := X.stack, stack := X.stack, ex := ex, fn := fun _ => false, pn := [], xe := fun _ _ => False }
noncomputable def capsOf (env : Env) (names : List Str) : List (Str × Addr) := names.filterMap fun n => (env.cells.lookup n).map fun c => (n, c)
theorem capsOf_sub {env : Env} : ∀ {names : List Str} {x : Str} {c : Addr}, (capsOf env names).lookup x = some c → env.cells.lookup x = some c
  | [], x, c, h => by simp [capsOf] at h
  | n :: r, x, c, h => by
    unfold capsOf at h
    rw [List.filterMap_cons] at h
    cases e : env.cells.lookup n with
    | none =>
      rw [e] at h
      exact capsOf_sub (names := r) h
    | some d =>
      rw [e] at h
      have h' : List.lookup x ((n, d) :: capsOf env r) = some c := h
      rw [List.lookup_cons] at h'
      by_cases hx : x = n
      · subst hx
        rw [beq_self_eq_true] at h'
        cases h'
        exact e
      · rw [beq_eq_false_iff_ne.mpr hx] at h'
        exact capsOf_sub (names := r) h'
theorem capsOf_has {env : Env} : ∀ {names : List Str} {x : Str} {c : Addr}, x ∈ names → env.cells.lookup x = some c → (capsOf env names).lookup x = some c
  | [], x, c, h, _ => by cases h
  | n :: r, x, c, h, e => by
    unfold capsOf
    rw [List.filterMap_cons]
    by_cases hx : x = n
    · subst hx
      rw [e]
      show List.lookup x ((x, c) :: _) = some c
      rw [List.lookup_cons, beq_self_eq_true]
    · have hr : x ∈ r := (List.mem_cons.mp h).resolve_left hx
      have ih := capsOf_has (env := env) hr e
      cases e2 : env.cells.lookup n with
      | none => exact ih
      | some d =>
        show List.lookup x ((n, d) :: capsOf env r) = some c
        rw [List.lookup_cons, beq_eq_false_iff_ne.mpr hx]
        exact ih
noncomputable def capV (σ : St) (is : List Nat) : St := is.map fun i => (σ[i]?).join
noncomputable def compK (te : TE) (tc : Option TT) (g : TG) (ts : St) (caps : St) (Q : VK) : It → Hp → Prop := fun J H1 => ∀ acc, H1 acc = none →
  ∃ W : Nat → Nat → List V → Hp → Prop, (∃ m, W 0 m [] (upd H1 acc (.lst []))) ∧ ∀ i m ys H, W i m ys H →
    H acc = some (.lst ys) ∧ ((J.stop i H ∧ Q (.ref acc) H) ∨ (ys.length < sizeLine ∧ J.go i H ∧ ∀ (us : St) x H', us.length = ts.length → J.yld i H x H' → g x (us ++ caps) H' fun σ2 H2 =>
      (∃ us2, us2.length = ts.length ∧ σ2 = us2 ++ caps) ∧
      let made := te σ2
      let next := fun y H3 => H3 acc = some (.lst ys) ∧ ∃ m', m' < m ∧ W (i + 1) m' (ys ++ [y]) (upd H3 acc (.lst (ys ++ [y])))
      match tc with
      | none => made H2 next
      | some c => c σ2 H2 fun b H3 => if b = true then made H3 next else ∃ m', m' < m ∧ W (i + 1) m' ys H3))
noncomputable def tComp (wi : TI) (te : TE) (tc : Option TT) (g : TG) (k : Nat) (is : List Nat) : TE := fun σ H Q => wi σ H (compK te tc g (List.replicate k none) (capV σ is) Q)
section
variable {X : Cx} {scope : Scope} {N tn names : List Str} {is : List Nat} {elt iter tg : Expr} {ifs : List Expr} {pos : Pos} {wi : TI} {te : TE} {tc : Option TT} {g : TG}
structure CompOk (X : Cx) (scope : Scope) (tn names : List Str) (is : List Nat) : Prop where
  cls : (∀ x ∈ names, ∃ c, X.env.cells.lookup x = some c) → closureFor scope X.env = pure (capsOf X.env names)
  nocell : ∀ y ∈ scope.names, y.2 ≠ .cell
  kind : scope.kind = .function
  nms : ∀ y ∈ scope.names, y.2 = .local → scope.names.lookup y.1 = some .local
  slots : ∀ (j i : Nat) (x : Str), is[j]? = some i → names[j]? = some x → X.N[i]? = some x
  len : is.length = names.length
  outk : ∀ x ∈ names, X.env.kindOf x = some .cell ∨ X.env.kindOf x = some .free
  ink : ∀ x ∈ names, (relabel scope X.env).names.lookup x = some .cell ∨ (relabel scope X.env).names.lookup x = some .free
  free : ∀ x, ((relabel scope X.env).names.lookup x = some .cell ∨ (relabel scope X.env).names.lookup x = some .free) → x ∈ names
theorem closure_go {env : Env} : ∀ (l : List (Str × NameKind)) (acc : List (Str × Addr)), (∀ x ∈ (l.filter fun y => y.2 == .free).map (·.1), ∃ c, env.cells.lookup x = some c) →
    (forIn l acc fun (x : Str × NameKind) (cs : List (Str × Addr)) => (if (x.2 == .free) = true then (do let a ← cellOf env x.1; pure (ForInStep.yield ((x.1, a) :: cs))) else pure (ForInStep.yield cs)) : Sem (List (Str × Addr)))
      = pure ((((l.filter fun y => y.2 == .free).map (·.1)).reverse.filterMap fun n => (env.cells.lookup n).map fun c => (n, c)) ++ acc)
  | [], acc, _ => rfl
  | (n, k) :: r, acc, h => by
    rw [List.forIn_cons]
    by_cases hk : (k == NameKind.free) = true
    · have hf : ((n, k) :: r).filter (fun y => y.2 == .free) = (n, k) :: r.filter fun y => y.2 == .free := by rw [List.filter_cons]; exact if_pos hk
      rw [hf] at h ⊢
      obtain ⟨c, e⟩ := h n (by simp)
      have e1 : cellOf env n = pure c := by unfold cellOf; rw [e]
      show (((if (k == NameKind.free) = true then (do let a ← cellOf env n; pure (ForInStep.yield ((n, a) :: acc))) else pure (ForInStep.yield acc)) : Sem _) >>= _) = _
      rw [if_pos hk, e1]
      have ih := closure_go r ((n, c) :: acc) fun x hx => h x (by simp at hx ⊢; exact .inr hx)
      have e2 : (((n, k) :: r.filter fun y => y.2 == .free).map (·.1)).reverse.filterMap (fun n => (env.cells.lookup n).map fun c => (n, c)) = ((r.filter fun y => y.2 == .free).map (·.1)).reverse.filterMap (fun n => (env.cells.lookup n).map fun c => (n, c)) ++ [(n, c)] := by
        rw [List.map_cons, List.reverse_cons, List.filterMap_append, List.filterMap_cons, e]
        rfl
      rw [e2, List.append_assoc]
      exact ih
    · have hf : ((n, k) :: r).filter (fun y => y.2 == .free) = r.filter fun y => y.2 == .free := by rw [List.filter_cons]; exact if_neg hk
      rw [hf] at h ⊢
      show (((if (k == NameKind.free) = true then (do let a ← cellOf env n; pure (ForInStep.yield ((n, a) :: acc))) else pure (ForInStep.yield acc)) : Sem _) >>= _) = _
      rw [if_neg hk]
      exact closure_go r acc h
theorem closureFor_caps {scope : Scope} {env : Env} {names : List Str} (hn : ((scope.names.filter fun y => y.2 == .free).map (·.1)).reverse = names) (h : ∀ x ∈ names, ∃ c, env.cells.lookup x = some c) :
    closureFor scope env = pure (capsOf env names) := by
  unfold closureFor capsOf
  have q := closure_go (env := env) scope.names [] fun x hx => h x (by rw [← hn]; exact List.mem_reverse.mpr hx)
  rw [hn, List.append_nil] at q
  show (_ >>= fun r => pure r) = _
  have q2 : (forIn scope.names ([] : List (Str × Addr)) fun (x : Str × NameKind) (cs : List (Str × Addr)) => match x with
      | (name, kind) => (if (kind == .free) = true then (do let a ← cellOf env name; pure (ForInStep.yield ((name, a) :: cs))) else pure (ForInStep.yield cs)) : Sem (List (Str × Addr))) = pure (names.filterMap fun n => (env.cells.lookup n).map fun c => (n, c)) := q
  first
    | exact (congrArg (fun z => z >>= fun r => pure r) q2)
    | simpa using q2
noncomputable def relab (scope sc : Scope) : Scope := { scope with names := scope.names.map fun (n, k) => if (k == .free && sc.kind == .function && sc.names.lookup n == some .cell) then (n, .cell) else (n, k) }
theorem comp_ck {X : Cx} {scope sc : Scope} {N tn names : List Str} {is : List Nat} (hsc : X.env.scope = sc) (hN : X.N = N) (h1 : ((scope.names.filter fun y => y.2 == .free).map (·.1)).reverse = names) (h2 : ∀ y ∈ scope.names, y.2 ≠ .cell) (h3 : scope.kind = .function)
    (h4 : ∀ y ∈ scope.names, y.2 = .local → scope.names.lookup y.1 = some .local) (h5 : (is.map fun i => N[i]?) = names.map some) (h6 : ∀ x ∈ names, sc.names.lookup x = some .cell ∨ sc.names.lookup x = some .free)
    (h7 : ∀ x ∈ names, (relab scope sc).names.lookup x = some .cell ∨ (relab scope sc).names.lookup x = some .free) (h8 : ∀ y ∈ (relab scope sc).names, (y.2 = .cell ∨ y.2 = .free) → y.1 ∈ names) : CompOk X scope tn names is := by
  subst hsc hN
  have hr : relabel scope X.env = relab scope X.env.scope := rfl
  refine ⟨closureFor_caps h1, h2, h3, h4, fun j i x e1 e2 => ?_, ?_, h6, ?_, fun x hx => ?_⟩
  · have q := congrArg (fun l => l[j]?) h5
    simp only [List.getElem?_map, e1, e2, Option.map_some] at q
    exact Option.some.inj q
  · have q := congrArg List.length h5
    simpa using q
  · rw [hr]; exact h7
  · rw [hr] at hx
    have mem : ∀ {l : List (Str × NameKind)} {k : NameKind}, l.lookup x = some k → (x, k) ∈ l := fun {l} {k} => by
      induction l with
      | nil => intro e; cases e
      | cons y r ih =>
        intro e
        obtain ⟨n, k'⟩ := y
        rw [List.lookup_cons] at e
        by_cases hx : x = n
        · subst hx
          rw [beq_self_eq_true] at e
          cases e
          exact List.mem_cons_self
        · rw [beq_eq_false_iff_ne.mpr hx] at e
          exact List.mem_cons_of_mem _ (ih e)
    rcases hx with hx | hx
    · exact h8 _ (mem hx) (.inl rfl)
    · exact h8 _ (mem hx) (.inr rfl)
theorem comp_ok {X : Cx} {scope : Scope} {tn names : List Str} {is : List Nat} (C : CompOk X scope tn names is) {pins : List (Addr × Obj)} {σ : St} {H : Hp} {s : Shared} (I : Inv X pins σ H s) {acc : Addr} {fp : List Addr}
    {s3 : Shared} {h1 : Heap} {t4 : Nat} (I3 : Inv X pins σ (upd H acc (.lst [])) s3) (hf : ∀ b ∈ fp, FpOk X pins H b) (hfl : ∀ b ∈ fp, b < s3.heap.objs.size) (hacc : ∀ b ∈ fp, b ≠ acc)
    (ns : h1.Ns s3.heap.objs.size fun _ => none) (kp : ∀ b o, s3.heap.get? b = some o → h1.get? b = some o) :
    Inv (cxComp X scope (capsOf X.env names) (tn ++ names) s3.heap.objs.size s3 (upd H acc (.lst [])) fp) [] (List.replicate tn.length none ++ capV σ is) (upd H acc (.lst [])) { s3 with heap := h1, toks := t4 } := by
  have ok := I3.ok
  have hC : ∀ x c, (capsOf X.env names).lookup x = some c → X.env.cells.lookup x = some c := fun x c h => capsOf_sub h
  have cellLt : ∀ x c, X.env.cells.lookup x = some c → c < s3.heap.objs.size := fun x c e => let ⟨v, z⟩ := I3.cell x c e; z.lt
  refine ⟨⟨ok.mod, ?_, ok.glob, ok.blt, Nat.le_refl _, fun x y c a b => ok.inj x y c (hC _ _ a) (hC _ _ b), fun x hx => ?_, fun _ _ z => absurd z (by simp [cxComp]), ok.hd, ok.frames, .inl rfl, fun b hb => ?_, fun b o e => I3.bs b o e, Nat.le_trans ok.bsz I3.sz, fun b o e hb => ?_, fun b hb z => ?_, I3.stack, fun b hb => I3.stkFree b hb⟩,
    rfl, I3.bare, Un.kept kp, ⟨_, ns, fun i x v e1 e2 e3 => ?_⟩, fun x c e => ?_, ?_, fun x c e => I3.freeC x c (hC _ _ e), fun p hp => absurd hp (by simp [cxComp]), I3.hok.kept kp, ?_⟩
  · show (relabel scope X.env).kind = .function
    exact C.kind
  · have hm := C.free x hx
    obtain ⟨c, e⟩ := ok.has x (C.outk x hm)
    exact ⟨c, capsOf_has hm e⟩
  · refine ⟨Nat.ne_of_lt (hfl b hb), fun x c e => (hf b hb).2.2.2.2.1 x c (hC _ _ e)⟩
  · rcases (hf b hb).2.2.2.1 with z | z
    · exact ok.noex b o e z
    · have := Nat.lt_of_lt_of_le (Heap.lt_size e) ok.bsz
      omega
  · have := I3.stkSub b z
    rcases List.mem_cons.mp this with q | q
    · exact (hf b hb).2.1 q
    · exact (hf b hb).2.2.1 q
  · by_cases hi : i < tn.length
    · rw [List.getElem?_append_left (by rw [List.length_replicate]; exact hi), List.getElem?_replicate] at e2
      rw [if_pos hi] at e2
      cases e2
    · have e1 : (tn ++ names)[i]? = some x := e1
      rw [List.getElem?_append_right (by omega)] at e1
      rw [List.getElem?_append_right (by rw [List.length_replicate]; omega), List.length_replicate] at e2
      generalize hj : i - tn.length = j at e1 e2
      unfold capV at e2
      rw [List.getElem?_map] at e2
      cases e4 : is[j]? with
      | none => rw [e4] at e2; cases e2
      | some i0 =>
        rw [e4] at e2
        have e5 : (σ[i0]?).join = some v := Option.some.inj e2
        have e6 : σ[i0]? = some (some v) := by
          cases q : σ[i0]? with
          | none => rw [q] at e5; cases e5
          | some o => rw [q] at e5; exact congrArg some e5
        have hx : x ∈ names := List.mem_of_getElem? e1
        obtain ⟨m, hm, look⟩ := I3.loc
        have hv : Vis X.env.scope x := by
          rcases C.outk x hx with q | q
          · exact .inr (.inl q)
          · exact .inr (.inr q)
        obtain ⟨u, ru, lk⟩ := look i0 x v (C.slots j i0 x e4 e1) e6 hv
        refine ⟨u, ru, .inr ⟨C.ink x hx, ?_⟩⟩
        rcases lk with ⟨q, _⟩ | ⟨_, c, ec, z⟩
        · rcases C.outk x hx with q' | q' <;> (rw [q] at q'; cases q')
        · exact ⟨c, capsOf_has hx ec, let ⟨o, a, b⟩ := z; ⟨o, kp _ _ a, b⟩⟩
  · obtain ⟨v, o, a, b⟩ := I3.cell x c (hC _ _ e)
    exact ⟨v, o, kp _ _ a, b⟩
  · exact I3.hok.fresh (Nat.le_refl _)
  · show (List.replicate tn.length none ++ capV σ is).length = (tn ++ names).length
    rw [List.length_append, List.length_append, List.length_replicate]
    unfold capV
    rw [List.length_map, C.len]
theorem compLoop_any {prog : Program} {w : World} {A : Around} {R : Result → Shared → Prop} {s : Shared} {elt target iter : Expr} {ifs : List Expr} {scope : Scope} {pos : Pos} {it acc : Value} {env : Env} (I : Nat → Shared → Prop)
    (turn : ∀ n s, I n s → wpAny (model prog w) A (pyNext it) (fun r s₁ => match r with
      | none => R (.ok .next) s₁
      | some v => wpAny (model prog w) A (letOwnedTupleGo target it v) (fun _ s₁' => wpAny (model prog w) A (assign target env v) (fun _ s₂ =>
          wpAny (model prog w) A (forIn ifs true fun c r => if r = true then do let ok ← isTrue c env (eval c env); pure (ForInStep.yield ok) else pure (ForInStep.yield r)) (fun ok s₃ =>
            if ok = true then wpAny (model prog w) A (eval elt env) (fun x s₄ =>
              wpAny (model prog w) A (call (.builtin "list.append") [acc, x]) (fun _ s₅ => ∃ m, m < n ∧ I m s₅) (fun _ _ => False) s₄) (fun _ _ => False) s₃
            else ∃ m, m < n ∧ I m s₃) (fun _ _ => False) s₂) (fun _ _ => False) s₁') (fun _ _ => False) s₁) (fun _ _ => False) s)
    (n : Nat) (h : I n s) :
    codeAny (model prog w) A (.compLoop (.ListComp elt [⟨target, iter, ifs, 0⟩] scope pos) 0 it acc env) R s := by
  refine codeAny_loop rfl I (fun n s hI => ?_) n h
  show wpAny _ A ((compTurn (.ListComp elt [⟨target, iter, ifs, 0⟩] scope pos) 0 it acc env).onRaise (fun x => do noteFrame x env; theTreesLotGoes x)) _ _ s
  refine wpAny_noted ?_
  rw [compTurn_list]
  refine wpAny_bind (wpAny_standAt (wpAny_bind (wpAny_mono (turn n s hI) (fun r s₁ h₁ => ?_) fun _ _ h' => h'.elim)))
  cases r with
  | none => exact wpAny_pure h₁
  | some v =>
    refine wpAny_bind (wpAny_mono h₁ (fun _ s₁' h₁' => ?_) fun _ _ h' => h'.elim)
    refine wpAny_bind (wpAny_mono h₁' (fun _ s₂ h₂ => wpAny_bind (wpAny_mono h₂ (fun ok s₃ h₃ => ?_) fun _ _ h' => h'.elim)) fun _ _ h' => h'.elim)
    cases ok with
    | false => exact wpAny_pure ⟨rfl, h₃⟩
    | true =>
      exact wpAny_bind (wpAny_bind (wpAny_mono h₃ (fun x s₄ h₄ => wpAny_bind (wpAny_mono h₄ (fun _ s₅ h₅ => wpAny_pure (wpAny_pure ⟨rfl, h₅⟩)) fun _ _ h' => h'.elim)) fun _ _ h' => h'.elim))
noncomputable def PTs (X' : Cx) (ifs : List Expr) (tc : Option TT) : Prop := match ifs, tc with
  | [], none => True
  | [c], some t => PT X' c t
  | _, _ => False
theorem pts_none {X' : Cx} : PTs X' [] none := trivial
theorem pts_one {X' : Cx} {c : Expr} {t : TT} (h : PT X' c t) : PTs X' [c] (some t) := h
structure TurnG (ok : Cx → Prop) (P : Program) (w : World) (K : PySem.W.Frag) (tg : Expr) (J : It) (fp : List Addr) (it : Addr) (tn : Nat → Heap → Prop) : Prop where
  mem : it ∈ fp
  obj : ∀ i h, tn i h → ∀ b ∈ fp, ∃ o, h.get? b = some o ∧ ∀ v, o.data ≠ .cell v
  keep : ∀ i h h', tn i h → (∀ b ∈ fp, ∀ o, h.get? b = some o → h'.get? b = some o) → tn i h'
  item : ∀ (X : Cx), X.prog = P → X.w = w → X.K = K → ok X → ∀ (i : Nat) (pins : List (Addr × Obj)) (s : Shared) (σ : St) (H : Hp) (E : Value → Shared → Prop), Inv X pins σ H s → (∀ b ∈ fp, FpOk X pins H b) → tn i s.heap → J.go i H →
    wpAny (model P w) X.A (pyNext (.ref it)) (fun r s1 => ∃ u, r = some u ∧ wpAny (model P w) X.A (letOwnedTupleGo tg (.ref it) u) (fun _ s2 => ∃ x H', Inv X pins σ H' s2 ∧ RelV x u ∧ J.yld i H x H' ∧ tn (i + 1) s2.heap ∧ ∀ b ∈ fp, H' b = none) E s1) E s
  done : ∀ (X : Cx), X.prog = P → X.w = w → X.K = K → ok X → ∀ (i : Nat) (pins : List (Addr × Obj)) (s : Shared) (σ : St) (H : Hp) (E : Value → Shared → Prop), Inv X pins σ H s → (∀ b ∈ fp, FpOk X pins H b) → tn i s.heap → J.stop i H →
    wpAny (model P w) X.A (pyNext (.ref it)) (fun r s1 => r = none ∧ Inv X pins σ H s1) E s
  self : ∀ (A : Around) (i : Nat) (s : Shared) (Q : Value → Shared → Prop) (E : Value → Shared → Prop), tn i s.heap → Q (.ref it) s → wpAny (model P w) A (pyIter (.ref it)) Q E s
noncomputable def PIEG (ok : Cx → Prop) (X : Cx) (pins : List (Addr × Obj)) (σ : St) (tg : Expr) (R : It → Hp → Prop) (itv : Value) (s2 : Shared) : Prop :=
  ∃ (it : Addr) (fp : List Addr) (tn : Nat → Heap → Prop) (J : It) (H' : Hp), itv = .ref it ∧ Inv X pins σ H' s2 ∧ TurnG ok X.prog X.w X.K tg J fp it tn ∧ tn 0 s2.heap ∧ (∀ b ∈ fp, FpOk X pins H' b) ∧ R J H'
theorem pie_g {X : Cx} {pins : List (Addr × Obj)} {σ : St} {tg : Expr} {R : It → Hp → Prop} {itv : Value} {s2 : Shared} (h : PIE X pins σ tg R itv s2) : PIEG (fun X => X.calm = true) X pins σ tg R itv s2 :=
  let ⟨it, fp, tn, J, H', a, b, T, c, d, e⟩ := h; ⟨it, fp, tn, J, H', a, b, ⟨T.mem, T.obj, T.keep, T.item, T.done, T.self⟩, c, d, e⟩
theorem comp_run {X : Cx} {ok : Cx → Prop} {scope : Scope} {tn names : List Str} {is : List Nat} (ck : CompOk X scope tn names is) (hc : ∀ C s0 H0 ex, ok (cxComp X scope (capsOf X.env names) (tn ++ names) C s0 H0 ex)) {elt tg iter : Expr} {ifs : List Expr} {pos : Pos} {te : TE} {tc : Option TT} {g : TG}
    (hg : ∀ C s0 H0 ex, PG (cxComp X scope (capsOf X.env names) (tn ++ names) C s0 H0 ex) tg g) (he : ∀ C s0 H0 ex, PE (cxComp X scope (capsOf X.env names) (tn ++ names) C s0 H0 ex) elt te)
    (ht : ∀ C s0 H0 ex, PTs (cxComp X scope (capsOf X.env names) (tn ++ names) C s0 H0 ex) ifs tc)
    {pins : List (Addr × Obj)} {σ : St} {Q : VK} {s2 : Shared} {itv : Value} {E : Value → Shared → Prop} (h2 : PIEG ok X pins σ tg (compK te tc g (List.replicate tn.length none) (capV σ is) Q) itv s2) {RR : Value → Addr → Result → Shared → Prop}
    (fin : ∀ (acc C : Addr) (H' : Hp) (s' : Shared) (m : Str → Option Value), Inv X pins σ H' s' → s'.heap.Ns C m → H' C = none → C ≠ X.env.locals → (∀ x c, X.env.cells.lookup x = some c → c ≠ C) → (∀ p ∈ X.pn ++ pins, p.1 ≠ C) → X.s₀.heap.objs.size ≤ C → Q (.ref acc) H' →
      RR (.ref acc) C (.ok .next) s') :
    wpAny (model X.prog X.w) X.A (newList []) (fun acc s₃ => wpAny (model X.prog X.w) X.A (newFunctionEnv scope X.env.globals (capsOf X.env names) [] X.env.qual none .none (some X.env)) (fun cenv s₄ =>
      codeAny (model X.prog X.w) X.A (.compStart (.ListComp elt [⟨tg, iter, ifs, 0⟩] scope pos) 0 itv acc { cenv with scope := relabel scope X.env }) (RR acc cenv.locals) s₄) E s₃) E s2 := by
  obtain ⟨it, fp, tnx, J, H2, rfl, I2, T, st2, f2, hK⟩ := h2
  have facc : H2 s2.heap.objs.size = none := I2.hok.fresh (Nat.le_refl _)
  refine wpAny_newObj_type ?_ (by show 0 ≤ sizeLine; decide)
  have fpl : ∀ b ∈ fp, b < s2.heap.objs.size := fun b hb => let ⟨o, e, _⟩ := T.obj 0 _ st2 b hb; Heap.lt_size e
  generalize hs3 : ({ s2 with heap := s2.heap.push { cls := .type "list", data := .seq ([] : List Value).toArray } } : Shared) = s3
  have hsz3 : s3.heap.objs.size = s2.heap.objs.size + 1 := by rw [← hs3]; exact Heap.size_push ..
  have keep23 : ∀ b o, s2.heap.get? b = some o → s3.heap.get? b = some o := fun b o e => by rw [← hs3]; exact Heap.get?_push_of_some _ e
  have I3 : Inv X pins σ (upd H2 s2.heap.objs.size (.lst [])) s3 := by
    rw [← hs3]
    exact I2.laid (t' := s2.toks) (fun b u e => Heap.get?_push_of_some _ e) (Nat.le_refl _) ⟨Nat.zero_le _, [], 0, .nil, Heap.get?_push_size _ rfl⟩
  refine wpAny_newFunctionEnv ck.nocell (by intro y hy; simp at hy) (fun h1 ns sb => ?_) ck.kind
  have kp : ∀ b o, s3.heap.get? b = some o → h1.get? b = some o := fun b o e => sb.extBut b o (Nat.ne_of_lt (Heap.lt_size e)) (Heap.get?_push_of_some _ e)
  have lt3 : ∀ b : Addr, b < s2.heap.objs.size → b < s3.heap.objs.size := fun b hb => Nat.lt_of_lt_of_le hb (by rw [hsz3]; exact Nat.le_succ _)
  have ns' : h1.Ns s3.heap.objs.size fun _ => none := ns
  have I4 := comp_ok (t4 := s3.toks + ([] : List (Str × Value)).length) ck I2 I3 f2 (fun b hb => lt3 b (fpl b hb)) (fun b hb => Nat.ne_of_lt (fpl b hb)) ns' kp
  generalize hX' : cxComp X scope (capsOf X.env names) (tn ++ names) s3.heap.objs.size s3 (upd H2 s2.heap.objs.size (.lst [])) fp = X' at I4
  have hA : X'.A = X.A := by rw [← hX']; rfl
  have hP : X'.prog = X.prog := by rw [← hX']; rfl
  have hW : X'.w = X.w := by rw [← hX']; rfl
  have hKK : X'.K = X.K := by rw [← hX']; rfl
  have hcm : ok X' := by rw [← hX']; exact hc _ _ _ _
  have hfs : X'.fs = frs X.stack := by rw [← hX']; rfl
  have hex : X'.ex = fp := by rw [← hX']; rfl
  have hloc : X'.env.locals = s3.heap.objs.size := by rw [← hX']; rfl
  have hs0 : X'.s₀ = s3 := by rw [← hX']; rfl
  have hH0 : X'.H₀ = upd H2 s2.heap.objs.size (.lst []) := by rw [← hX']; rfl
  have hxe : X'.xe = fun _ _ => False := by rw [← hX']; rfl
  have henv : X'.env = compEnvC scope (capsOf X.env names) s3.heap.objs.size X.env := by rw [← hX']; rfl
  have hg' : PG X' tg g := by rw [← hX']; exact hg _ _ _ _
  have he' : PE X' elt te := by rw [← hX']; exact he _ _ _ _
  have ht' : PTs X' ifs tc := by rw [← hX']; exact ht _ _ _ _
  have cells' : ∀ x c, X'.env.cells.lookup x = some c → X.env.cells.lookup x = some c := fun x c e => by rw [henv] at e; exact capsOf_sub e
  obtain ⟨W, ⟨m0, w0⟩, turn⟩ := hK _ facc
  have stat : ∀ {H' : Hp}, (∀ b ∈ fp, H' b = none) → ∀ b ∈ fp, FpOk X' [] H' b := fun {H'} hn b hb => by
    refine ⟨hn b hb, ?_, ?_, .inl (by rw [hex]; exact hb), fun x c e => (f2 b hb).2.2.2.2.1 x c (cells' x c e), fun p hp => ?_⟩
    · rw [hloc]; exact Nat.ne_of_lt (lt3 b (fpl b hb))
    · rw [hfs]
      intro z
      rcases List.mem_cons.mp (I2.stkSub b z) with q | q
      · exact (f2 b hb).2.1 q
      · exact (f2 b hb).2.2.1 q
    · rw [← hX'] at hp
      exact absurd hp (by simp [cxComp])
  have loop : ∀ s4 : Shared, Inv X' [] (List.replicate tn.length none ++ capV σ is) (upd H2 s2.heap.objs.size (.lst [])) s4 → tnx 0 s4.heap →
      codeAny (model X.prog X.w) X.A (.compLoop (.ListComp elt [⟨tg, iter, ifs, 0⟩] scope pos) 0 (.ref it) (.ref s2.heap.objs.size) X'.env) (RR (.ref s2.heap.objs.size) s3.heap.objs.size) s4 := by
    intro s4 J4 st4
    refine compLoop_any (fun n s' => ∃ i ys ts H', Inv X' [] (ts ++ capV σ is) H' s' ∧ ts.length = tn.length ∧ tnx i s'.heap ∧ (∀ b ∈ fp, H' b = none) ∧ W i n ys H') ?_ m0
      ⟨0, [], _, _, J4, List.length_replicate .., st4, fun b hb => by rw [upd_ne (Nat.ne_of_lt (fpl b hb))]; exact (f2 b hb).1, w0⟩
    rintro n s5 ⟨i, ys, ts, H5, I5, hts, st5, fr5, w5⟩
    obtain ⟨hacc5, hcase⟩ := turn i n ys H5 w5
    have hrun : ∀ {α : Type} {m : Sem α} {Q' : α → Shared → Prop} {s' : Shared}, wpAny (model X'.prog X'.w) X'.A m Q' (fun _ _ => False) s' → wpAny (model X.prog X.w) X.A m Q' (fun _ _ => False) s' := fun {α m Q' s'} z => by
      rw [hP, hW, hA] at z; exact z
    rcases hcase with ⟨stop, qn⟩ | ⟨hlen, go, step⟩
    · have z := T.done X' hP hW hKK hcm i [] s5 _ H5 (fun _ _ => False) I5 (stat fr5) st5 stop
      rw [hA] at z
      refine thn z fun r s6 ⟨hr, I6⟩ => ?_
      subst hr
      -- the frame around, behind the block
      have u23 : Un (frs X.stack) fp H2 (upd H2 s2.heap.objs.size (.lst [])) s2.heap s3.heap := Un.laid keep23 (Nat.le_refl _) facc
      have u36 : Un (frs X.stack) fp (upd H2 s2.heap.objs.size (.lst [])) H5 s3.heap s6.heap := by
        have b := I6.base
        rw [hfs, hex, hs0, hH0] at b
        exact b
      have hos : s6.os = s2.os := by
        have b := I6.os
        rw [hs0, ← hs3] at b
        exact b
      have IO : Inv X pins σ H5 s6 := I2.call' hos (u23.trans u36) (by have b := I6.hok; rw [hP, hW] at b; exact b) I6.bare fun b hb => by
        obtain ⟨_, f1, f2', f3, f4, f5⟩ := f2 b hb
        exact ⟨f3, f1, fun x c e => f4 x c e, fun p hp => f5 p hp⟩
      obtain ⟨m, hm, _⟩ := I6.loc
      rw [hloc] at hm
      have fC : H5 s3.heap.objs.size = none := by have b := I6.free; rw [hloc] at b; exact b
      refine fin _ _ H5 s6 m IO hm fC ?_ (fun x c e => ?_) (fun p hp => ?_) ?_ qn
      · exact Nat.ne_of_gt (Nat.lt_of_lt_of_le I2.lt (by omega))
      · obtain ⟨v, z⟩ := I2.cell x c e
        exact Nat.ne_of_lt (lt3 c z.lt)
      · exact Nat.ne_of_lt (lt3 p.1 (Heap.lt_size (I2.pin p hp).1))
      · exact Nat.le_trans I2.sz (by omega)
    · have z := T.item X' hP hW hKK hcm i [] s5 _ H5 (fun _ _ => False) I5 (stat fr5) st5 go
      rw [hA] at z
      refine thn z fun r s6 ⟨u, hr, h6⟩ => ?_
      subst hr
      refine thn h6 fun _ s7 ⟨x, H7, I7, r7, y7, st7, fr7⟩ => ?_
      have I7' := I7.pinned (stat fr7) (T.obj _ _ st7)
      have zg := hg' _ s7 _ H7 x u _ I7' r7 (step ts x H7 (by rw [hts, List.length_replicate]) y7)
      rw [hxe] at zg
      refine thn (hrun zg) fun _ s8 ⟨σ8, H8, I8, ⟨us2, hus, e8⟩, q8⟩ => ?_
      subst e8
      rw [List.length_replicate] at hus
      have back : ∀ {s9 : Shared} {H9 : Hp}, Inv X' ([] ++ pinsAt fp s7.heap) (us2 ++ capV σ is) H9 s9 → tnx (i + 1) s9.heap ∧ ∀ b ∈ fp, H9 b = none := fun {s9 H9} I9 => by
        refine ⟨T.keep _ _ _ st7 fun b hb o e => (I9.pin (b, o) (List.mem_append_right _ (List.mem_append_right _ (mem_pinsAt hb e)))).1, fun b hb => ?_⟩
        obtain ⟨o, e, d⟩ := T.obj _ _ st7 b hb
        exact (I9.pin (b, o) (List.mem_append_right _ (List.mem_append_right _ (mem_pinsAt hb e)))).2.1
      have made : ∀ {s9 : Shared} {H9 : Hp}, Inv X' ([] ++ pinsAt fp s7.heap) (us2 ++ capV σ is) H9 s9 → te (us2 ++ capV σ is) H9 (fun y H3 => H3 s2.heap.objs.size = some (.lst ys) ∧ ∃ m', m' < n ∧ W (i + 1) m' (ys ++ [y]) (upd H3 s2.heap.objs.size (.lst (ys ++ [y])))) →
          wpAny (model X.prog X.w) X.A (eval elt X'.env) (fun x s₄ => wpAny (model X.prog X.w) X.A (call (.builtin "list.append") [.ref s2.heap.objs.size, x]) (fun _ s₅ => ∃ m, m < n ∧ ∃ i ys ts H', Inv X' [] (ts ++ capV σ is) H' s₅ ∧ ts.length = tn.length ∧ tnx i s₅.heap ∧ (∀ b ∈ fp, H' b = none) ∧ W i m ys H') (fun _ _ => False) s₄) (fun _ _ => False) s9 := fun {s9 H9} I9 q9 => by
        have ze := he' _ s9 _ H9 _ I9 q9
        rw [hxe] at ze
        refine thn (hrun ze) fun y s10 ⟨yv, H10, I10, ry, ha10, m', hm', w10⟩ => ?_
        have za := (mt_append (X := X')) ([] ++ pinsAt fp s7.heap) s10 (us2 ++ capV σ is) H10 (.ref s2.heap.objs.size) [yv] (.ref s2.heap.objs.size) [y] (fun v H' => v = .non ∧ H' = upd H10 s2.heap.objs.size (.lst (ys ++ [yv]))) I10 rfl (.cons ry .nil)
          ⟨_, ys, yv, rfl, rfl, ha10, hlen, rfl, rfl⟩
        rw [hxe] at za
        refine thn (hrun za) fun _ s11 ⟨_, H11, I11, _, _, e11⟩ => ?_
        subst e11
        obtain ⟨b1, b2⟩ := back I11
        exact ⟨m', hm', i + 1, _, us2, _, I11.unpinned, hus, b1, b2, w10⟩
      cases ifs with
      | nil =>
        cases tc with
        | some t => exact ht'.elim
        | none => exact wpAny_tests_nil (by rw [if_pos rfl]; exact made I8 q8)
      | cons c0 rest =>
        cases rest with
        | cons _ _ => cases tc <;> exact ht'.elim
        | nil =>
          cases tc with
          | none => exact ht'.elim
          | some t =>
            have zt := (show PT X' c0 t from ht') _ s8 _ H8 _ I8 q8
            rw [hxe] at zt
            refine wpAny_tests_one (thn (hrun zt) fun ok s9 ⟨H9, I9, q9⟩ => ?_)
            cases ok with
            | true => rw [if_pos rfl]; rw [if_pos rfl] at q9; exact made I9 q9
            | false =>
              rw [if_neg Bool.false_ne_true]
              rw [if_neg Bool.false_ne_true] at q9
              obtain ⟨m', hm', w9⟩ := q9
              obtain ⟨b1, b2⟩ := back I9
              exact ⟨m', hm', i + 1, _, us2, _, I9.unpinned, hus, b1, b2, w9⟩
  have st4 : tnx 0 h1 := T.keep _ _ _ st2 fun b hb o e => kp b o (keep23 b o e)
  have goal0 := loop _ I4 st4
  rw [henv] at goal0
  refine codeAny_compStart_list goal0 (T.self X.A 0 _ _ _ st4 goal0)
theorem pe_comp (ck : CompOk X scope tn names is) (hc : X.calm = true) (hi : PI X tg iter wi)
    (hg : ∀ C s0 H0 ex, PG (cxComp X scope (capsOf X.env names) (tn ++ names) C s0 H0 ex) tg g) (he : ∀ C s0 H0 ex, PE (cxComp X scope (capsOf X.env names) (tn ++ names) C s0 H0 ex) elt te)
    (ht : ∀ C s0 H0 ex, PTs (cxComp X scope (capsOf X.env names) (tn ++ names) C s0 H0 ex) ifs tc) (hs : ∀ x, foldedSetIterable iter X.env x = pure x := by intro _; rfl) :
    PE X (.ListComp elt [⟨tg, iter, ifs, 0⟩] scope pos) (tComp wi te tc g tn.length is) := by
  intro pins s σ H Q I h
  rw [eval_ListComp]
  refine wpAny_comprehension_free (use := none) rfl hs (ck.cls fun x hx => I.ok.has x (ck.outk x hx)) ck.kind ck.nms (thn (hi pins s σ H _ I h) fun v s1 h1 => thn h1 fun itv s2 h2 => ?_)
  refine comp_run (RR := fun acc C => compPost (model X.prog X.w) X.A X.xe none (EP X pins σ Q) acc C) (ok := fun X => X.calm = true) ck (fun _ _ _ _ => hc) hg he ht (pie_g h2) fun acc C H' s' m I' hn hC hL hcl hpn hsz q => ?_
  refine ⟨m, hn, fun h' sb => ⟨.ref acc, H', ?_, rfl, q⟩⟩
  exact I'.turned (t' := s'.toks) (fun b o hb e => sb.extBut b o hb e) hC hL (.inr hsz) hcl hpn
end
section
variable {te : TE} {Q : VK} {H : Hp} {σ caps : St} {wi : TI} {tc : TT} {K : PySem.W.Frag}
theorem r_comp {o : Option TT} {g : TG} {k : Nat} {is : List Nat} (h : wi σ H (compK te o g (List.replicate k none) (capV σ is) Q)) : tComp wi te o g k is σ H Q := h
theorem len1 {us : St} (h : us.length = 1) : ∃ o, us = [o] := by
  cases us with
  | nil => cases h
  | cons o r =>
    cases r with
    | nil => exact ⟨o, rfl⟩
    | cons _ _ => simp at h
noncomputable def cW (n : Nat) (acc : Addr) (Pv : Nat → List V → Hp → Prop) : Nat → Nat → List V → Hp → Prop := fun i m ys H1 => m = n - i ∧ i ≤ n ∧ ys.length = i ∧ H1 acc = some (.lst ys) ∧ Pv i ys H1
noncomputable def cNext (n : Nat) (acc : Addr) (Pv : Nat → List V → Hp → Prop) (ys : List V) (i : Nat) : VK := fun y H3 => H3 acc = some (.lst ys) ∧ ∃ m', m' < n - i ∧ cW n acc Pv (i + 1) m' (ys ++ [y]) (upd H3 acc (.lst (ys ++ [y])))
theorem c_next {n : Nat} {acc : Addr} {Pv : Nat → List V → Hp → Prop} {ys : List V} {i : Nat} {y : V} {H3 : Hp} (hlt : i < n) (hl : ys.length = i) (ha : H3 acc = some (.lst ys)) (p : Pv (i + 1) (ys ++ [y]) (upd H3 acc (.lst (ys ++ [y])))) : cNext n acc Pv ys i y H3 :=
  ⟨ha, n - (i + 1), by omega, rfl, hlt, by rw [List.length_append, hl]; rfl, upd_same, p⟩
theorem r_compL {a : Addr} {xs : List V} (hn : xs.length ≤ 1000) (Pv : Addr → Nat → List V → Hp → Prop) (h0 : ∀ acc, H acc = none → Pv acc 0 [] (upd H acc (.lst []))) (hl' : ∀ acc i ys H1, H acc = none → i ≤ xs.length → Pv acc i ys H1 → SqL K H1 a xs)
    (hs : ∀ acc i ys H1 x, H acc = none → xs[i]? = some x → ys.length = i → H1 acc = some (.lst ys) → Pv acc i ys H1 → te (some x :: caps) H1 (cNext xs.length acc (Pv acc) ys i))
    (hd : ∀ acc ys H1, H acc = none → H1 acc = some (.lst ys) → ys.length = xs.length → Pv acc xs.length ys H1 → Q (.ref acc) H1) : compK te none (gName 0) (List.replicate 1 none) caps Q (Itl K a) H := by
  intro acc hacc
  refine ⟨cW xs.length acc (Pv acc), ⟨xs.length, by simp, Nat.zero_le _, rfl, upd_same, h0 acc hacc⟩, ?_⟩
  rintro i m ys H1 ⟨rfl, hi, hl, ha, p⟩
  have q := hl' acc i ys H1 hacc hi p
  refine ⟨ha, ?_⟩
  by_cases hlt : i < xs.length
  · refine .inr ⟨small1000 (by omega), ⟨xs, xs[i], q, by simp [hlt]⟩, fun us x H' hu y => ?_⟩
    obtain ⟨e, y⟩ := y
    subst e
    obtain ⟨o, rfl⟩ := len1 hu
    exact ⟨⟨[some x], rfl, rfl⟩, hs acc i ys _ x hacc (y xs q) hl ha p⟩
  · have e : i = xs.length := by omega
    subst e
    exact .inl ⟨⟨xs, q, Nat.le_refl _⟩, hd acc ys H1 hacc ha hl p⟩
end
end L2
namespace L2
open PySem
section
variable {H : Hp} {Q : VK} {u v : V} {a b c d : Int} {m n : Nat} {K : PySem.W.Frag}
end
end L2
namespace L2
theorem cop_mul {x y z : Int} (h1 : Int.gcd x y = 1) (h2 : Int.gcd x z = 1) : Int.gcd x (y * z) = 1 := by
  unfold Int.gcd at *
  rw [Int.natAbs_mul]
  exact Nat.Coprime.mul_right h1 h2
theorem cop_dvd {x x' y : Int} (h : x' ∣ x) (h1 : Int.gcd x y = 1) : Int.gcd x' y = 1 := by
  unfold Int.gcd at *
  exact Nat.Coprime.coprime_dvd_left (Int.natAbs_dvd_natAbs.mpr h) h1
theorem rat_of {t b f g : Int} (hb : b ≠ 0) (hg : 0 < g) (hc : Int.gcd f g = 1) (e : f * b = t * g) : (Rat.divInt t b).num = f ∧ ((Rat.divInt t b).den : Int) = g := by
  obtain ⟨n, rfl⟩ : ∃ n : Nat, g = n := ⟨g.toNat, by omega⟩
  have h1 : Rat.divInt t b = Rat.divInt f n := (Rat.divInt_eq_divInt_iff hb (by omega)).mpr e.symm
  have h2 : Rat.divInt f n = Rat.mk' f n (by omega) hc := Rat.num_divInt_den (Rat.mk' f n (by omega) hc)
  rw [h1, h2]
  exact ⟨rfl, rfl⟩
theorem fdiv_mul {a g : Int} (hg : g ≠ 0) (h : g ∣ a) : a.fdiv g * g = a := by
  obtain ⟨c, rfl⟩ := h
  rw [Int.mul_fdiv_cancel_left _ hg, Int.mul_comm]
theorem dvd_cop' {k n m : Int} (h : k ∣ n * m) (g : Int.gcd k n = 1) : k ∣ m := by
  have q := Int.dvd_gcd_mul_iff_dvd_mul.mpr h
  rw [g] at q
  simpa using q
theorem gcd_one_of {x y : Int} (h : ∀ k : Int, k ∣ x → k ∣ y → k ∣ 1) : Int.gcd x y = 1 := by
  have h1 := h (Int.gcd x y) (Int.gcd_dvd_left ..) (Int.gcd_dvd_right ..)
  have := Int.le_of_dvd (by decide) h1
  have h0 : Int.gcd x y ≠ 0 := by
    intro z
    rw [z] at h1
    simp at h1
  omega
theorem add_parts {a b c d s k f u v : Int} (hb : 0 < b) (hd : 0 < d) (h1 : Int.gcd a b = 1) (h2 : Int.gcd c d = 1) (hs : s = (Int.gcd b d : Int)) (hu : u = d.fdiv s) (hv : v = b.fdiv s)
    (hk : k = (Int.gcd (a * u + c * v) s : Int)) (hf : f = (a * u + c * v).fdiv k) :
    0 < s ∧ 0 < k ∧ s ≤ b ∧ k ≤ s ∧ (0 < b.fdiv k * u ∧ Int.gcd f (b.fdiv k * u) = 1 ∧ f * (b * d) = (a * d + c * b) * (b.fdiv k * u)) ∧
      u.natAbs ≤ d.natAbs ∧ v.natAbs ≤ b.natAbs ∧ f.natAbs ≤ (a * u + c * v).natAbs ∧ (b.fdiv k).natAbs ≤ b.natAbs := by
  have le_of_mul : ∀ {a g c : Int}, g ≠ 0 → a * g = c → a.natAbs ≤ c.natAbs := fun {a g c} hg e => by
    rw [← e, Int.natAbs_mul]
    exact Nat.le_mul_of_pos_right _ (by omega)
  have s0 : 0 < s := by
    rw [hs]
    have : Int.gcd b d ≠ 0 := fun e => by
      have := (Int.gcd_eq_zero_iff.mp e).1
      omega
    omega
  have sb : s ∣ b := hs ▸ Int.gcd_dvd_left ..
  have sd : s ∣ d := hs ▸ Int.gcd_dvd_right ..
  have eu : u * s = d := hu ▸ fdiv_mul (by omega) sd
  have ev : v * s = b := hv ▸ fdiv_mul (by omega) sb
  have k0 : 0 < k := by
    rw [hk]
    have : Int.gcd (a * u + c * v) s ≠ 0 := fun e => by
      have := (Int.gcd_eq_zero_iff.mp e).2
      omega
    omega
  have kt : k ∣ a * u + c * v := hk ▸ Int.gcd_dvd_left ..
  have ks : k ∣ s := hk ▸ Int.gcd_dvd_right ..
  have ef : f * k = a * u + c * v := hf ▸ fdiv_mul (by omega) kt
  obtain ⟨m, em⟩ := ks
  have m0 : 0 < m := by
    rcases Int.lt_or_le 0 m with q | q
    · exact q
    · have : k * m ≤ 0 := Int.mul_nonpos_of_nonneg_of_nonpos (by omega) q
      omega
  have u0 : 0 < u := by
    rcases Int.lt_or_le 0 u with q | q
    · exact q
    · have : u * s ≤ 0 := Int.mul_nonpos_of_nonpos_of_nonneg q (by omega)
      omega
  have v0 : 0 < v := by
    rcases Int.lt_or_le 0 v with q | q
    · exact q
    · have : v * s ≤ 0 := Int.mul_nonpos_of_nonpos_of_nonneg q (by omega)
      omega
  have ebk : b.fdiv k = v * m := by
    have : b = k * (v * m) := by rw [← ev, em]; grind
    rw [this, Int.mul_fdiv_cancel_left _ (by omega)]
  have cuv : Int.gcd u v = 1 := by
    have e : Int.gcd (u * s) (v * s) = Int.gcd u v * s.natAbs := Int.gcd_mul_right ..
    rw [eu, ev, Int.gcd_comm] at e
    have : s.natAbs = Int.gcd b d := by omega
    rw [this] at e
    have h0 : 0 < Int.gcd b d := by omega
    have : 1 * Int.gcd b d = Int.gcd u v * Int.gcd b d := by omega
    exact (Nat.eq_of_mul_eq_mul_right h0 this).symm
  have cu : Int.gcd (a * u + c * v) u = 1 := by
    refine gcd_one_of fun z h3 h4 => ?_
    have h5 : z ∣ c * v := (Int.dvd_add_right (Int.dvd_mul_of_dvd_right h4)).mp h3
    have h6 : Int.gcd z c = 1 := cop_dvd (Int.dvd_trans h4 ⟨s, eu.symm⟩) (by rw [Int.gcd_comm]; exact h2)
    have h7 : z ∣ v := dvd_cop' h5 h6
    have := Int.dvd_coe_gcd h4 h7
    rw [cuv] at this
    exact this
  have cv : Int.gcd (a * u + c * v) v = 1 := by
    refine gcd_one_of fun z h3 h4 => ?_
    have h5 : z ∣ a * u := (Int.dvd_add_left (Int.dvd_mul_of_dvd_right h4)).mp h3
    have h6 : Int.gcd z a = 1 := cop_dvd (Int.dvd_trans h4 ⟨s, ev.symm⟩) (by rw [Int.gcd_comm]; exact h1)
    have h7 : z ∣ u := dvd_cop' h5 h6
    have := Int.dvd_coe_gcd h7 h4
    rw [cuv] at this
    exact this
  have cm : Int.gcd f m = 1 := by
    have e : Int.gcd (f * k) (m * k) = Int.gcd f m * k.natAbs := Int.gcd_mul_right ..
    have : m * k = s := by rw [em, Int.mul_comm]
    rw [ef, this] at e
    have h3 : k.natAbs = Int.gcd (a * u + c * v) s := by omega
    rw [h3] at e
    have h0 : 0 < Int.gcd (a * u + c * v) s := by omega
    have : 1 * Int.gcd (a * u + c * v) s = Int.gcd f m * Int.gcd (a * u + c * v) s := by omega
    exact (Nat.eq_of_mul_eq_mul_right h0 this).symm
  have fd : f ∣ a * u + c * v := ⟨k, ef.symm⟩
  refine ⟨s0, k0, Int.le_of_dvd hb sb, Int.le_of_dvd s0 ⟨m, em⟩, ⟨?_, ?_, ?_⟩, le_of_mul (by omega) eu, le_of_mul (by omega) ev, le_of_mul (by omega) ef, le_of_mul (g := k) (by omega) (by rw [ebk, ← ev, em]; grind)⟩
  · rw [ebk]; exact Int.mul_pos (Int.mul_pos v0 m0) u0
  · rw [ebk]
    exact cop_mul (cop_mul (cop_dvd fd cv) cm) (cop_dvd fd cu)
  · rw [ebk]
    have e1 : a * d + c * b = (f * k) * s := by rw [ef, ← eu, ← ev]; grind
    rw [e1, ← eu, ← ev]
    have : f * (v * s * (u * s)) = f * s * v * u * s := by grind
    rw [this]
    have : f * k * s * (v * m * u) = f * s * v * u * (k * m) := by grind
    rw [this, ← em]
noncomputable def Sz (n : Nat) (q : Rat) : Prop := q.num.natAbs < 2 ^ n ∧ q.den < 2 ^ n
theorem add_divInt (q r : Rat) : q + r = Rat.divInt (q.num * r.den + r.num * q.den) (q.den * r.den) := by
  have h1 : (q.den : Int) ≠ 0 := by have := q.den_pos; omega
  have h2 : (r.den : Int) ≠ 0 := by have := r.den_pos; omega
  have := Rat.divInt_add_divInt q.num r.num h1 h2
  rw [Rat.num_divInt_den, Rat.num_divInt_den] at this
  exact this
theorem Sz.neg {n : Nat} {q : Rat} (h : Sz n q) : Sz n (-q) := ⟨by rw [Rat.neg_num, Int.natAbs_neg]; exact h.1, h.2⟩
theorem less_iff (q r : Rat) : decide (q.num * r.den < r.num * q.den) = decide (q < r) := by
  by_cases h : q < r
  · rw [decide_eq_true h, decide_eq_true ((Rat.lt_iff q r).mp h)]
  · rw [decide_eq_false h, decide_eq_false (fun z => h ((Rat.lt_iff q r).mpr z))]
end L2
namespace L2
noncomputable def Bd (D M : Nat) (q : Rat) : Prop := q.den ∣ D ∧ -((M : Nat) : Rat) ≤ q ∧ q ≤ ((M : Nat) : Rat)
theorem le_mul1 {a b : Int} (ha : 0 ≤ a) (hb : 1 ≤ b) : a ≤ a * b := by
  have := Int.mul_le_mul_of_nonneg_left hb ha
  omega
theorem den_dvd {t b : Int} (hb : b ≠ 0) : ((Rat.divInt t b).den : Int) ∣ b := by
  have e : Rat.divInt (Rat.divInt t b).num (Rat.divInt t b).den = Rat.divInt t b := Rat.num_divInt_den _
  have hd : ((Rat.divInt t b).den : Int) ≠ 0 := by have := (Rat.divInt t b).den_pos; omega
  rw [Rat.divInt_eq_divInt_iff hd hb] at e
  have hc : Int.gcd (Rat.divInt t b).num (Rat.divInt t b).den = 1 := (Rat.divInt t b).reduced
  exact dvd_cop' (n := (Rat.divInt t b).num) ⟨t, by rw [e, Int.mul_comm]⟩ (by rw [Int.gcd_comm]; exact hc)
theorem over {D : Nat} {q : Rat} (h : q.den ∣ D) (hD : D ≠ 0) : ∃ a : Int, q = Rat.divInt a D := by
  obtain ⟨m, e⟩ := h
  refine ⟨q.num * m, ?_⟩
  have hq := q.den_pos
  have e1 : Rat.divInt (q.num * m) D = Rat.divInt q.num q.den := by
    rw [Rat.divInt_eq_divInt_iff (by omega) (by omega), e]
    push_cast
    grind
  rw [e1, Rat.num_divInt_den]
theorem den_add {D : Nat} {q r : Rat} (hD : D ≠ 0) (h1 : q.den ∣ D) (h2 : r.den ∣ D) : (q + r).den ∣ D := by
  obtain ⟨a, rfl⟩ := over h1 hD
  obtain ⟨b, rfl⟩ := over h2 hD
  rw [Rat.divInt_add_divInt a b (by omega) (by omega)]
  have e : Rat.divInt (a * D + b * D) (D * D) = Rat.divInt (a + b) D := by
    rw [Rat.divInt_eq_divInt_iff (Int.mul_ne_zero (by omega) (by omega)) (by omega)]
    grind
  rw [e]
  exact Int.natCast_dvd_natCast.mp (den_dvd (by omega))
theorem Bd.add {D M N : Nat} {q r : Rat} (hD : D ≠ 0) (h1 : Bd D M q) (h2 : Bd D N r) : Bd D (M + N) (q + r) := by
  obtain ⟨a1, a2, a3⟩ := h1
  obtain ⟨b1, b2, b3⟩ := h2
  refine ⟨den_add hD a1 b1, ?_, ?_⟩
  · have e : (((M + N : Nat)) : Rat) = (M : Rat) + (N : Rat) := by push_cast; rfl
    rw [e]
    grind
  · have e : (((M + N : Nat)) : Rat) = (M : Rat) + (N : Rat) := by push_cast; rfl
    rw [e]
    grind
theorem Bd.mono {D M N : Nat} {q : Rat} (h : Bd D M q) (l : M ≤ N) : Bd D N q := by
  obtain ⟨a1, a2, a3⟩ := h
  have e : (M : Rat) ≤ (N : Rat) := by
    rw [Rat.le_iff]
    simp
    omega
  exact ⟨a1, by grind, by grind⟩
theorem Bd.sz {D M n : Nat} {q : Rat} (h : Bd D M q) (hD : D ≠ 0) (h1 : D < 2 ^ n) (h2 : M * D < 2 ^ n) : Sz n q := by
  obtain ⟨a1, a2, a3⟩ := h
  have hle := Nat.le_of_dvd (by omega) a1
  have k1 : q.num ≤ M * q.den := by
    have := (Rat.le_iff q (M : Rat)).mp a3
    simpa using this
  have k2 : -(M * q.den : Int) ≤ q.num := by
    have := (Rat.le_iff (-(M : Rat)) q).mp a2
    have e1 : (-(M : Rat)).num = -(M : Int) := by rw [Rat.neg_num]; simp
    have e2 : (-(M : Rat)).den = 1 := by rw [Rat.neg_den]; simp
    rw [e1, e2] at this
    simp at this
    have e3 : -(M : Int) * q.den = -((M : Int) * q.den) := by grind
    omega
  refine ⟨?_, by omega⟩
  have k3 : M * q.den ≤ M * D := Nat.mul_le_mul_left _ hle
  have k4 : ((M * q.den : Nat) : Int) = (M : Int) * q.den := by push_cast; rfl
  omega
theorem Bd.of {q : Rat} {M : Nat} (h : q.num.natAbs ≤ M) : Bd q.den M q := by
  have hp := q.den_pos
  refine ⟨Nat.dvd_refl _, ?_, ?_⟩
  · rw [Rat.le_iff]
    have e1 : (-(M : Rat)).num = -(M : Int) := by rw [Rat.neg_num]; simp
    have e2 : (-(M : Rat)).den = 1 := by rw [Rat.neg_den]; simp
    rw [e1, e2]
    have : (M : Int) ≤ (M : Int) * q.den := le_mul1 (by omega) (by omega)
    have e3 : -(M : Int) * q.den = -((M : Int) * q.den) := by grind
    simp
    omega
  · rw [Rat.le_iff]
    have : (M : Int) ≤ (M : Int) * q.den := le_mul1 (by omega) (by omega)
    simp
    omega
theorem Bd.dvd {D E M : Nat} {q : Rat} (h : Bd D M q) (d : D ∣ E) : Bd E M q := ⟨Nat.dvd_trans h.1 d, h.2⟩
end L2
namespace L2
open PySem
noncomputable def Tb (w : World) (t : SetTable) (n : Nat) : Prop := t.led = !(w.params.followText "set-order") ∧ (n ≠ 0 → t.plain = false)
theorem layNew_led (t : SetTable) (es : Array (Int × Value)) (h : Int) (x : Value) : (layNew t es h x).2.1.led = t.led := by
  unfold layNew
  split
  · dsimp only
    unfold SetTable.orStandIn
    split <;> rfl
  · rfl
theorem relay_led (t : SetTable) (es : Array (Int × Value)) (k : Nat) (hp : t.plain = false) : (relayAll t es k).2.1.led = t.led ∧ (relayAll t es k).2.1.plain = false := by
  unfold relayAll
  split
  · rename_i t' order e
    unfold SetTable.relaid SetTable.laid at e
    cases hc : SetTable.layClean (SetTable.sizeAbove k - 1) (Array.map (fun x => x.fst) es) with
    | none =>
      rw [hc] at e
      exact nomatch e
    | some ow =>
    rw [hc] at e
    have e3 := congrArg Prod.fst (Option.some.inj e)
    dsimp only at e3
    subst e3
    dsimp only
    split
    · exact ⟨rfl, hp⟩
    · exact ⟨rfl, rfl⟩
  · exact ⟨rfl, rfl⟩
section
variable {prog : Program} {w : World} {K : Type} [DecidableEq K] {knd : KeyKind prog w K} {A : Around} {E : Value → Shared → Prop} {s : Shared}
theorem add_text {a : Addr} {o : Obj} {es : Array (Int × Value)} {ep : Nat} {t : SetTable} {y : Str} {tk : Tok} {k : K} {Q : Bool → Shared → Prop} (hkey : knd.is k (.str y tk) = true) (ho : s.heap.get? a = some o) (hex : o.ExactSet) (hd : o.data = .set es ep t)
    (hel : ElemsOf knd es.toList) (hb : es.size + 1 < scanBound) (hf : t.fits es.size = true) (ht : Tb w t es.size)
    (h1 : (∃ e ∈ es.toList, knd.is k e.2 = true) → Q false s)
    (h2 : (∀ e ∈ es.toList, knd.is k e.2 = false) → ∀ (h' : Heap) (es' : Array (Int × Value)) (t' : SetTable) (ep' : Nat), Heap.SameBut a s.heap h' → h'.get? a = some { o with data := .set es' ep' t' } → List.Perm es'.toList (es.toList ++ [(knd.hash k, .str y tk)]) →
      t'.fits es'.size = true → Tb w t' es'.size → Q true { s with heap := h' }) : wpAny (model prog w) A (setAddHashed a (.str y tk) (knd.hash k)) Q E s := by
  unfold setAddHashed setAddHashedIn
  refine wpAny_holding (wpAny_bind (wpAny_setState_of ho hd hf ?_))
  have hsc : (Value.str y tk).scannable = true := rfl
  dsimp only
  rw [byScan_of hsc (by omega) hel, if_pos rfl]
  unfold setAddByScan
  refine wpAny_bind (wpAny_bind (wpAny_rule (wpAny_bind (wpAny_setScan_of hkey ho hd hf hel ?_))))
  cases hr : List.findIdx? (fun e => knd.is k e.2) es.toList with
  | some j =>
    obtain ⟨hj, hpj, _⟩ := List.findIdx?_eq_some_iff_getElem.mp hr
    exact wpAny_pure (wpAny_pure (h1 ⟨_, List.getElem_mem hj, hpj⟩))
  | none =>
    have hno := List.findIdx?_eq_none_iff.mp hr
    have gw : ∀ (b : Bool) {s₁ : Shared} {Q' : Unit → Shared → Prop}, Q' () s₁ → wpAny (model prog w) A (match b with | true => rule "set.scan.the-table-gave-way" | false => pure ()) Q' E s₁ := fun b _ _ hq => by
      cases b
      · exact wpAny_pure hq
      · exact wpAny_rule hq
    dsimp only
    have p1 := layNew_perm t es (knd.hash k) (.str y tk)
    have f1 := layNew_fits t es (knd.hash k) (.str y tk)
    have l1 := layNew_led t es (knd.hash k) (.str y tk)
    generalize layNew t es (knd.hash k) (.str y tk) = L at p1 f1 l1 ⊢
    obtain ⟨es1, t1, wd, gave⟩ := L
    dsimp only at p1 f1 l1 ⊢
    rw [Array.toList_push] at p1
    have hz : es1.size = es.size + 1 := by
      have := p1.length_eq
      simpa using this
    refine wpAny_bind (gw _ ?_)
    have fin : ∀ t2 : SetTable, t2.fits es1.size = true → t2.led = t.led → t2.plain = false → wpAny (model prog w) A (do
        storeSet a es1 t2
        if (!wd && t2.tooFull) = true then do
            (match (relayAll t2 es1 (SetTable.grown es1.size)).2.2 with | true => rule "set.scan.the-table-gave-way" | false => pure ())
            storeSet a (relayAll t2 es1 (SetTable.grown es1.size)).1 (relayAll t2 es1 (SetTable.grown es1.size)).2.1
            pure (some true)
          else pure (some true)) (fun r s₁ => wpAny (model prog w) A (match r with | some added => pure added | none => setAddHashedIn a (.str y tk) (knd.hash k) 99999) Q E s₁) E s := by
      intro t2 f2 l2 pl2
      refine wpAny_bind (wpAny_storeSet_of ho hd ?_ (fits_of_scanBound (by omega)))
      have g1 : (s.heap.update a (Obj.putSet es1 t2)).get? a = some { o with data := .set es1 (ep + 1) t2 } := by
        have z := Heap.get?_update_self (Obj.putSet es1 t2) ho (by rw [putSet_of es1 t2 hd]; rfl)
        rw [putSet_of es1 t2 hd] at z
        exact z
      have sb1 := Heap.SameBut.update s.heap a (Obj.putSet es1 t2)
      split
      · have p2 := relayAll_perm t2 es1 (SetTable.grown es1.size)
        have f3 := relayAll_fits t2 es1 (SetTable.grown es1.size)
        have l3 := relay_led t2 es1 (SetTable.grown es1.size) pl2
        generalize relayAll t2 es1 (SetTable.grown es1.size) = R at p2 f3 l3 ⊢
        obtain ⟨es2, t3, gave2⟩ := R
        dsimp only at p2 f3 l3 ⊢
        have hz2 : es2.size = es1.size := by
          have := p2.length_eq
          simpa using this
        refine wpAny_bind (gw _ ?_)
        refine wpAny_bind (wpAny_storeSet_of g1 rfl ?_ (fits_of_scanBound (by omega)))
        have g2 : ((s.heap.update a (Obj.putSet es1 t2)).update a (Obj.putSet es2 t3)).get? a = some { o with data := .set es2 (ep + 1 + 1) t3 } := by
          have z := Heap.get?_update_self (Obj.putSet es2 t3) g1 (by rw [putSet_of es2 t3 rfl]; rfl)
          rw [putSet_of es2 t3 rfl] at z
          exact z
        exact wpAny_pure (wpAny_pure (h2 hno _ es2 t3 _ (sb1.trans (Heap.SameBut.update _ a _)) g2 (p2.trans p1) f3 ⟨by rw [l3.1, l2]; exact ht.1, fun _ => l3.2⟩))
      · exact wpAny_pure (wpAny_pure (h2 hno _ es1 t2 _ sb1 g1 p1 f2 ⟨by rw [l2]; exact ht.1, fun _ => pl2⟩))
    split
    · refine wpAny_bind ?_
      rw [hashByValue_scannable 8 hsc]
      refine wpAny_pure ?_
      have e0 : plainKind (Value.str y tk) = false := rfl
      rw [e0, if_neg Bool.false_ne_true]
      exact fin _ (SetTable.fits_plain_off f1) l1 rfl
    · rename_i hpl
      refine wpAny_bind (wpAny_pure ?_)
      rw [if_pos rfl]
      exact fin t1 f1 l1 (by simpa using hpl)
end
end L2
namespace L2
open PySem
section
variable {prog : Program} {w : World} {A : Around} {E : Value → Shared → Prop} {s : Shared}
theorem drawn_any {M : Model} {src : Source} {n : Nat} {Q : Nat → Shared → Prop} (hn : n ≠ 0) (h : ∀ i d, i < n → Q i { s with drawn := d }) : wpAny M A (choose src n) Q E s := by
  intro Γ p _
  show Sem.wp M Γ (.choose src n .pure) _ _ p s
  rw [Sem.wp_choose]
  exact ⟨hn, by rw [Sem.wp]; exact h _ _ (Nat.mod_lt _ (Nat.pos_of_ne_zero hn))⟩
theorem erase_perm {α : Type} : ∀ {l : List α} {i : Nat} {x : α}, l[i]? = some x → (x :: l.eraseIdx i).Perm l
  | [], i, x, h => by simp at h
  | a :: l, 0, x, h => by simp at h; subst h; exact .refl _
  | a :: l, i + 1, x, h => by
    have ih := erase_perm (l := l) (i := i) (x := x) (by simpa using h)
    show (x :: a :: l.eraseIdx i).Perm (a :: l)
    exact (List.Perm.swap ..).trans (ih.cons a)
theorem order_any {M : Model} {α : Type} : ∀ (n : Nat) (xs : List α) (s : Shared) (Q : List α → Shared → Prop), xs.length = n → (∀ ys d, ys.Perm xs → Q ys { s with drawn := d }) → wpAny M A (drawOrder n xs) Q E s
  | 0, xs, s, Q, hl, h => by
    have : xs = [] := List.length_eq_zero_iff.mp hl
    subst this
    exact wpAny_pure (h [] s.drawn (.refl _))
  | n + 1, [], s, Q, hl, h => by cases hl
  | n + 1, x :: xs, s, Q, hl, h => by
    unfold drawOrder
    refine wpAny_bind (drawn_any (by simp) fun i d hi => ?_)
    obtain ⟨y, hy⟩ : ∃ y, (x :: xs)[i]? = some y := ⟨_, List.getElem?_eq_getElem hi⟩
    rw [hy]
    refine wpAny_bind (order_any n _ _ _ ?_ fun ys d' hp => wpAny_pure (h _ d' ?_))
    · have := (erase_perm hy).length_eq
      simp at this hl ⊢
      omega
    · exact (hp.cons y).trans (erase_perm hy)
theorem pick_go {α : Type} (next : Nat → Nat) : ∀ (fuel k : Nat) (left : List α) (out : Array α), left.length = fuel → (pickOrder.go next fuel k left out).toList.Perm (out.toList ++ left)
  | 0, k, left, out, hl => by
    have : left = [] := List.length_eq_zero_iff.mp hl
    subst this
    unfold pickOrder.go
    simp
  | fuel + 1, k, left, out, hl => by
    unfold pickOrder.go
    have hlt : next k % left.length < left.length := Nat.mod_lt _ (by omega)
    obtain ⟨y, hy⟩ : ∃ y, left[next k % left.length]? = some y := ⟨_, List.getElem?_eq_getElem hlt⟩
    rw [hy]
    dsimp only
    have hp := erase_perm hy
    have ih := pick_go next fuel (k + 1) (left.eraseIdx (next k % left.length)) (out.push y) (by
      have := hp.length_eq
      simp at this
      omega)
    refine ih.trans ?_
    rw [Array.toList_push, List.append_assoc]
    exact List.Perm.append_left _ hp
theorem pick_perm {α : Type} (next : Nat → Nat) (xs : Array α) : (pickOrder next xs).toList.Perm xs.toList := by
  unfold pickOrder
  have := pick_go next xs.size 0 xs.toList #[] (by simp)
  simpa using this
theorem slot_si_next : Slot "set_iterator" "__next__" "set_iterator.__next__" :=
  .of (owner := "set_iterator") (n := "__next__") (by rw [typeLookup_type, builtinLookup_eq_fast]; kernel_rfl) (by decide +kernel) (by decide +kernel) (by decide +kernel) (by first | exact .inl (by decide +kernel) | exact .inr (by decide +kernel)) (by rw [isSubtype_type]; kernel_rfl)
theorem entry_si_next : entryFor table "set_iterator.__next__" = some Builtin.«set_iterator.__next__» := entryFor_of_tree (by kernel_rfl)
theorem entry_s_iter : entryFor table "set.__iter__" = some Builtin.«frozenset.__iter__» := entryFor_alias (id' := "frozenset.__iter__") (by kernel_rfl) rfl (by decide +kernel) (by kernel_rfl)
theorem args_si_next (a : Value) : argsOk "set_iterator.__next__" ⟨[a], []⟩ := by
  unfold argsOk
  kernel_rfl
end
end L2
namespace L2
open PySem
noncomputable def setObj (es : Array (Int × Value)) (ep : Nat) (t : SetTable) : Obj := { cls := .type "set", dict := none, data := .set es ep t, slots := #[] }
noncomputable def IsSI (h : Heap) (it : Addr) (first : Value) (i : Nat) (a : Addr) (n ep : Nat) : Prop :=
  ∃ o, h.get? it = some o ∧ o.cls = .type "set_iterator" ∧ o.data = .fields #[first, .int i 0, .ref a, .int n 0, .int ep 0]
theorem IsSI.typeIs {s : Shared} {it a : Addr} {first : Value} {i n ep : Nat} (x : IsSI s.heap it first i a n ep) : s.TypeIs (.ref it) "set_iterator" := let ⟨o, ho, hc, _⟩ := x; ⟨o, ho, hc⟩
section
variable {prog : Program} {w : World} {A : Around} {E : Value → Shared → Prop} {s : Shared}
theorem si_call {it : Addr} {Q : Option Value → Shared → Prop} (hT : s.TypeIs (.ref it) "set_iterator")
    (h : wpAny (model prog w) A.in1 (Builtin.«set_iterator.__next__» ⟨[.ref it], []⟩) (fun fin s' => ∃ v, fin = .done (.ret v) ∧ Q (some v) s') (fun e s' => wpAny (model prog w) A (do if ← isInstance e (.type "StopIteration") then pure none else throw e) Q E s') s) :
    wpAny (model prog w) A (pyNext (.ref it)) Q E s := by
  unfold pyNext
  have hc : wpAny (model prog w) A (callSpecial? (.ref it) (Str.ofString "__next__")) (fun r s' => ∃ v, r = some v ∧ Q (some v) s') (fun e s' => wpAny (model prog w) A (do if ← isInstance e (.type "StopIteration") then pure none else throw e) Q E s') s :=
    wpAny_callSpecial?_slot (name := Str.ofString "__next__") hT slot_si_next (wpAny_call_entry slot_si_next hT entry_si_next (wpAny_mono h (fun fin s' ⟨v, e, q⟩ => ⟨v, e, v, rfl, q⟩) fun _ _ e => e) (args_si_next _))
  refine wpAny_bind (wpAny_attempt (wpAny_mono hc (fun r s' hr => ?_) fun e s' he => he))
  obtain ⟨v, rfl, q⟩ := hr
  exact wpAny_pure q
theorem si_stop {e : Value} {Q : Option Value → Shared → Prop} (hT : s.TypeIs e "StopIteration") (h : Q none s) : wpAny (model prog w) A (do if ← isInstance e (.type "StopIteration") then pure none else throw e) Q E s := by
  refine wpAny_bind (wpAny_isInstance hT isSubtype_stop ?_)
  exact wpAny_pure h
theorem si_raise {α : Type} {Q : α → Shared → Prop} (hh : A.handled = none) (h : ∀ e h', (∀ b o, s.heap.get? b = some o → h'.get? b = some o) → Shared.TypeIs { s with heap := h' } e "StopIteration" → E e { s with heap := h' }) :
    wpAny (model prog w) A (do raiseNew (← newExc (.type "StopIteration") []) : Sem α) Q E s := by
  refine wpAny_bind ?_
  simp only [newExc, newTuple]
  refine wpAny_bind (wpAny_newObj_type ?_ (by size_fits))
  refine wpAny_bind (m := firstArgMember _ _) (wpAny_of_eq (a := Value.none) (by first | rfl | (simp only [firstArgMember]; rfl)) ?_)
  refine wpAny_newObj_type ?_ (by size_fits)
  simp only [raiseNew]
  refine wpAny_bind (wpAny_handled ?_)
  rw [hh]
  refine wpAny_bind (wpAny_pure (wpAny_throw ?_))
  exact h (.ref _) _ (fun b o e => Heap.get?_push_of_some _ (Heap.get?_push_of_some _ e)) ⟨_, Heap.get?_push_size _ rfl, rfl⟩
variable {a it : Addr} {es : Array (Int × Value)} {ep i n : Nat} {t : SetTable} {first : Value}
theorem si_open {Q : Fin → Shared → Prop} (hi : IsSI s.heap it first i a es.size ep) (ha : s.heap.get? a = some (setObj es ep t)) (hf : t.fits es.size = true)
    (h : wpAny (model prog w) A (if let .int slot _ := first then do
        match ← setNext a slot.toNat i ep with
        | some (x, next) =>
          setField (.ref it) 0 (rawInt next)
          setField (.ref it) 1 (rawInt ((i : Int) + 1))
          ret x
        | none => setField (.ref it) 2 .none; raiseNew (← newExc (.type "StopIteration") [])
      else do
        let some places ← seqItems? first | unsupported "internal:set_iterator"
        match places[i]? with
        | some (.int place _) =>
          let x ← setNextDrawn a place.toNat ep
          setField (.ref it) 1 (rawInt ((i : Int) + 1))
          ret x
        | some _ => unsupported "internal:set_iterator"
        | none => setField (.ref it) 0 (rawInt 0); setField (.ref it) 2 .none; raiseNew (← newExc (.type "StopIteration") [])) Q E s) :
    wpAny (model prog w) A (Builtin.«set_iterator.__next__» ⟨[.ref it], []⟩) Q E s := by
  obtain ⟨o, ho, hc, hd⟩ := hi
  unfold Builtin.«set_iterator.__next__»
  refine wpAny_bind (m := slotArgs _ _ _) (wpAny_pure ?_)
  refine wpAny_bind (wpAny_fieldsOf ho hd ?_)
  dsimp only
  refine wpAny_bind (wpAny_setEntries_of ha rfl hf ?_)
  rw [if_neg (by simp)]
  exact h
theorem si_set {o : Obj} {vs : Array Value} {k : Nat} {v : Value} (h : Heap) (ho : h.get? it = some o) (hd : o.data = .fields vs) : (h.update it (Obj.mapFields (·.setIfInBounds k v))).get? it = some (o.mapFields (·.setIfInBounds k v)) :=
  Heap.get?_update_self _ ho (Obj.isFreed_of_fields (Obj.data_mapFields hd _))
theorem si_next_d {tp : Addr} {places : List Nat} {p : Nat} {x : Int × Value} {Q : Option Value → Shared → Prop} (hi : IsSI s.heap it (.ref tp) i a es.size ep) (ha : s.heap.get? a = some (setObj es ep t)) (hf : t.fits es.size = true) (hta : it ≠ a) (htt : it ≠ tp)
    (ht : ∃ o k, s.heap.get? tp = some o ∧ o.data = .seq (places.map fun j => rawInt (j : Nat)).toArray k) (hp : places[i]? = some p) (hx : es[p]? = some x)
    (h : ∀ h', IsSI h' it (.ref tp) (i + 1) a es.size ep → Heap.SameBut it s.heap h' → Q (some x.2) { s with heap := h' }) : wpAny (model prog w) A (pyNext (.ref it)) Q E s := by
  refine si_call hi.typeIs (si_open hi ha hf ?_)
  obtain ⟨o, ho, hc, hd⟩ := hi
  obtain ⟨ot, kt, h1, h2⟩ := ht
  show wpAny (model prog w) A.in1 (do
        let some places ← seqItems? (.ref tp) | unsupported "internal:set_iterator"
        match places[i]? with
        | some (.int place _) =>
          let x ← setNextDrawn a place.toNat ep
          setField (.ref it) 1 (rawInt ((i : Int) + 1))
          ret x
        | some _ => unsupported "internal:set_iterator"
        | none => setField (.ref it) 0 (rawInt 0); setField (.ref it) 2 .none; raiseNew (← newExc (.type "StopIteration") [])) _ _ s
  unfold seqItems?
  refine wpAny_bind (wpAny_bind (wpAny_load h1 ?_))
  rw [h2]
  refine wpAny_pure ?_
  have e1 : (places.map fun j => rawInt (j : Nat)).toArray[i]? = some (rawInt (p : Nat)) := by simp [hp]
  dsimp only
  rw [e1]
  show wpAny (model prog w) A.in1 (do
          let x ← setNextDrawn a ((p : Int)).toNat ep
          setField (.ref it) 1 (rawInt ((i : Int) + 1))
          ret x) _ _ s
  unfold setNextDrawn
  refine wpAny_bind (wpAny_bind (wpAny_setState_of ha rfl hf ?_))
  dsimp only
  rw [if_neg (by simp), Int.toNat_natCast, hx]
  refine wpAny_pure ?_
  refine wpAny_bind (wpAny_setField ho hd (by simp) ?_)
  refine wpAny_pure ⟨_, rfl, h _ ⟨_, si_set s.heap ho hd, (Obj.cls_mapFields ..).trans hc, ?_⟩ (Heap.SameBut.update ..)⟩
  rw [Obj.data_mapFields hd]
  simp [rawInt]
theorem si_end_d {tp : Addr} {places : List Nat} {Q : Option Value → Shared → Prop} (hh : A.handled = none) (hi : IsSI s.heap it (.ref tp) i a es.size ep) (ha : s.heap.get? a = some (setObj es ep t)) (hf : t.fits es.size = true)
    (ht : ∃ o k, s.heap.get? tp = some o ∧ o.data = .seq (places.map fun j => rawInt (j : Nat)).toArray k) (hp : places[i]? = none)
    (h : ∀ h', Heap.ExtBut it s.heap h' → Q none { s with heap := h' }) : wpAny (model prog w) A (pyNext (.ref it)) Q E s := by
  refine si_call hi.typeIs (si_open hi ha hf ?_)
  obtain ⟨o, ho, hc, hd⟩ := hi
  obtain ⟨ot, kt, h1, h2⟩ := ht
  show wpAny (model prog w) A.in1 (do
        let some places ← seqItems? (.ref tp) | unsupported "internal:set_iterator"
        match places[i]? with
        | some (.int place _) =>
          let x ← setNextDrawn a place.toNat ep
          setField (.ref it) 1 (rawInt ((i : Int) + 1))
          ret x
        | some _ => unsupported "internal:set_iterator"
        | none => setField (.ref it) 0 (rawInt 0); setField (.ref it) 2 .none; raiseNew (← newExc (.type "StopIteration") [])) _ _ s
  unfold seqItems?
  refine wpAny_bind (wpAny_bind (wpAny_load h1 ?_))
  rw [h2]
  refine wpAny_pure ?_
  have e1 : (places.map fun j => rawInt (j : Nat)).toArray[i]? = none := by simpa using hp
  dsimp only
  rw [e1]
  refine wpAny_bind (wpAny_setField ho hd (by simp) ?_)
  have g1 := si_set (k := 0) (v := rawInt 0) s.heap ho hd
  refine wpAny_bind (wpAny_setField g1 (Obj.data_mapFields hd _) (by simp) ?_)
  refine si_raise (by simpa using hh) fun e h' k hT => ?_
  refine si_stop hT (h h' fun b o' hb e' => k b o' ?_)
  exact (Heap.get?_update_other _ _ (Ne.symm hb)).trans ((Heap.get?_update_other _ _ (Ne.symm hb)).trans e')
theorem si_next_s {slot next : Nat} {x : Value} {Q : Option Value → Shared → Prop} (hi : IsSI s.heap it (.int slot 0) i a es.size ep) (ha : s.heap.get? a = some (setObj es ep t)) (hf : t.fits es.size = true)
    (hn : ∀ (A : Around) (E : Value → Shared → Prop) (Q : Option (Value × Nat) → Shared → Prop), Q (some (x, next)) s → wpAny (model prog w) A (setNext a slot i ep) Q E s)
    (h : ∀ h', IsSI h' it (.int next 0) (i + 1) a es.size ep → Heap.SameBut it s.heap h' → Q (some x) { s with heap := h' }) : wpAny (model prog w) A (pyNext (.ref it)) Q E s := by
  refine si_call hi.typeIs (si_open hi ha hf ?_)
  obtain ⟨o, ho, hc, hd⟩ := hi
  show wpAny (model prog w) A.in1 (do
        match ← setNext a ((slot : Int)).toNat i ep with
        | some (x, next) =>
          setField (.ref it) 0 (rawInt next)
          setField (.ref it) 1 (rawInt ((i : Int) + 1))
          ret x
        | none => setField (.ref it) 2 .none; raiseNew (← newExc (.type "StopIteration") [])) _ _ s
  rw [Int.toNat_natCast]
  refine wpAny_bind (hn _ _ _ ?_)
  refine wpAny_bind (wpAny_setField ho hd (by simp) ?_)
  have g1 := si_set (k := 0) (v := rawInt next) s.heap ho hd
  refine wpAny_bind (wpAny_setField g1 (Obj.data_mapFields hd _) (by simp) ?_)
  refine wpAny_pure ⟨_, rfl, h _ ⟨_, si_set _ g1 (Obj.data_mapFields hd _), (Obj.cls_mapFields ..).trans ((Obj.cls_mapFields ..).trans hc), ?_⟩ ((Heap.SameBut.update ..).trans (Heap.SameBut.update ..))⟩
  rw [Obj.data_mapFields (Obj.data_mapFields hd _)]
  simp [rawInt]
theorem si_end_s {slot : Nat} {Q : Option Value → Shared → Prop} (hh : A.handled = none) (hi : IsSI s.heap it (.int slot 0) i a es.size ep) (ha : s.heap.get? a = some (setObj es ep t)) (hf : t.fits es.size = true)
    (hn : ∀ (A : Around) (E : Value → Shared → Prop) (Q : Option (Value × Nat) → Shared → Prop), Q none s → wpAny (model prog w) A (setNext a slot i ep) Q E s)
    (h : ∀ h', Heap.ExtBut it s.heap h' → Q none { s with heap := h' }) : wpAny (model prog w) A (pyNext (.ref it)) Q E s := by
  refine si_call hi.typeIs (si_open hi ha hf ?_)
  obtain ⟨o, ho, hc, hd⟩ := hi
  show wpAny (model prog w) A.in1 (do
        match ← setNext a ((slot : Int)).toNat i ep with
        | some (x, next) =>
          setField (.ref it) 0 (rawInt next)
          setField (.ref it) 1 (rawInt ((i : Int) + 1))
          ret x
        | none => setField (.ref it) 2 .none; raiseNew (← newExc (.type "StopIteration") [])) _ _ s
  rw [Int.toNat_natCast]
  refine wpAny_bind (hn _ _ _ ?_)
  refine wpAny_bind (wpAny_setField ho hd (by simp) ?_)
  refine si_raise (by simpa using hh) fun e h' k hT => ?_
  refine si_stop hT (h h' fun b o' hb e' => k b o' ?_)
  exact (Heap.get?_update_other _ _ (Ne.symm hb)).trans e'
end
end L2
namespace L2
open PySem
section
variable {prog : Program} {w : World} {A : Around} {E : Value → Shared → Prop} {s : Shared} {a it : Addr} {es : Array (Int × Value)} {ep i n : Nat} {t : SetTable}
theorem byText_is {Q : Bool → Shared → Prop} (h : Q (w.params.followText "set-order") s) : wpAny (model prog w) A setsByText Q E s := by
  unfold setsByText
  exact wpAny_bind (wpAny_askSetting (wpAny_pure h))
theorem next_text {slot : Nat} (ht : w.params.followText "set-order" = true) (ha : s.heap.get? a = some (setObj es ep t)) (hf : t.fits es.size = true) {Q : Option (Value × Nat) → Shared → Prop}
    (h : Q (((pickOrder (w.params.setOrder a ep) es)[i]?).map fun e => (e.2, slot)) s) : wpAny (model prog w) A (setNext a slot i ep) Q E s := by
  unfold setNext
  refine wpAny_bind (wpAny_setState_of ha rfl hf ?_)
  dsimp only
  refine wpAny_bind (byText_is ?_)
  rw [ht, if_pos rfl, if_neg (by simp)]
  unfold setWalk
  refine wpAny_bind (wpAny_bind (wpAny_setState_of ha rfl hf ?_))
  dsimp only
  refine wpAny_bind (byText_is ?_)
  rw [ht, if_pos rfl]
  exact wpAny_bind (wpAny_askSetting (wpAny_pure (wpAny_pure h)))
theorem next_few {slot : Nat} (ht : w.params.followText "set-order" = false) (hl : t.led = true) (h1 : es.size ≤ 1) (ha : s.heap.get? a = some (setObj es ep t)) (hf : t.fits es.size = true) {Q : Option (Value × Nat) → Shared → Prop}
    (h : Q (match es[SetTable.below t.place slot]?, t.place[SetTable.below t.place slot]? with | some (_, x), some j => some (x, j + 1) | _, _ => none) s) : wpAny (model prog w) A (setNext a slot i ep) Q E s := by
  unfold setNext
  refine wpAny_bind (wpAny_setState_of ha rfl hf ?_)
  dsimp only
  refine wpAny_bind (byText_is ?_)
  rw [ht, if_neg Bool.false_ne_true]
  have hd : (!t.plain && decide (es.size > 1)) = false := by
    rw [decide_eq_false (by omega), Bool.and_false]
  show wpAny (model prog w) A (if (!t.plain && decide (es.size > 1)) = true then _ else _) Q E s
  rw [if_neg (by rw [hd]; exact Bool.false_ne_true)]
  refine wpAny_bind ?_
  show wpAny (model prog w) A (if (!t.led && !es.isEmpty) = true then unsupported "set:maker-not-led" else pure ()) _ _ s
  rw [if_neg (by rw [hl]; simp)]
  exact wpAny_pure (wpAny_pure h)
structure SetWalk (prog : Program) (w : World) (A : Around) (it : Addr) (fp : List Addr) (ord : List Value) (St : Nat → Heap → Prop) : Prop where
  ws : Walks prog w A it fp [it] ord.length (fun i v => ord[i]? = some v) St
  ty : ∀ i (s : Shared), St i s.heap → s.TypeIs (.ref it) "set_iterator"
theorem si_self {first : Value} {Q : Value → Shared → Prop} (hi : IsSI s.heap it first i a n ep) (h : Q (.ref it) s) (slot : Slot "set_iterator" "__iter__" "set_iterator.__iter__") (entry : entryFor table "set_iterator.__iter__" = some Builtin.«dict_keyiterator.__iter__»)
    (args : argsOk "set_iterator.__iter__" ⟨[.ref it], []⟩) : wpAny (model prog w) A (pyIter (.ref it)) Q E s := by
  refine wpAny_pyIter_slot hi.typeIs slot (wpAny_call_entry slot hi.typeIs entry ?_ args)
  show wpAny _ _ (ret (.ref it)) _ _ s
  exact wpAny_pure ⟨_, rfl, "set_iterator", _, hi.typeIs, slot_si_next.lookup, h⟩
end
theorem slot_si_iter : Slot "set_iterator" "__iter__" "set_iterator.__iter__" :=
  .of (owner := "set_iterator") (n := "__iter__") (by rw [typeLookup_type, builtinLookup_eq_fast]; kernel_rfl) (by decide +kernel) (by decide +kernel) (by decide +kernel) (by first | exact .inl (by decide +kernel) | exact .inr (by decide +kernel)) (by rw [isSubtype_type]; kernel_rfl)
theorem entry_si_iter : entryFor table "set_iterator.__iter__" = some Builtin.«dict_keyiterator.__iter__» := entryFor_alias (id' := "dict_keyiterator.__iter__") (by kernel_rfl) rfl (by decide +kernel) (by kernel_rfl)
theorem args_si_iter (a : Value) : argsOk "set_iterator.__iter__" ⟨[a], []⟩ := by
  unfold argsOk
  kernel_rfl
section
variable {prog : Program} {w : World} {A : Around} {E : Value → Shared → Prop} {s : Shared} {a it : Addr} {es : Array (Int × Value)} {ep i n : Nat} {t : SetTable}
theorem IsSI.at {h h' : Heap} {first : Value} (x : IsSI h it first i a n ep) (e : ∀ o, h.get? it = some o → h'.get? it = some o) : IsSI h' it first i a n ep := let ⟨o, ho, r⟩ := x; ⟨o, e _ ho, r⟩
theorem below_one {j k : Nat} : SetTable.below #[j] k = if j < k then 1 else 0 := by
  unfold SetTable.below
  show SetTable.below.go #[j] k 1 0 1 = _
  unfold SetTable.below.go
  by_cases h : j < k
  · simp [h, SetTable.below.go]
  · simp [h, SetTable.below.go]
theorem walk_text (hh : A.handled = none) (hne : a ≠ it) (ht : w.params.followText "set-order" = true) (hf : t.fits es.size = true) :
    SetWalk prog w A it [it, a] ((pickOrder (w.params.setOrder a ep) es).toList.map (·.2)) (fun i h => IsSI h it (.int (0 : Nat) 0) i a es.size ep ∧ h.get? a = some (setObj es ep t)) where
  ws := {
    sub := fun b hb => by simp at hb; simp [hb]
    frame := fun _ _ _ st hk => ⟨st.1.at fun o e => hk it (by simp) o e, hk a (by simp) _ st.2⟩
    item := fun i s Q E hi st hQ => by
      have hlt : i < (pickOrder (w.params.setOrder a ep) es).size := by simpa using hi
      refine si_next_s (slot := 0) (next := 0) (x := ((pickOrder (w.params.setOrder a ep) es)[i]).2) st.1 st.2 hf (fun A E Q q => next_text ht st.2 hf (by simpa [hlt] using q)) fun h' hit sb => ?_
      exact hQ _ h' s.toks (by simp [hlt]) ⟨hit, (sb.2 a hne).trans st.2⟩ fun b o hb e => (sb.2 b (by simpa using hb)).trans e
    done := fun s Q E st hQ => by
      refine si_end_s (slot := 0) hh st.1 st.2 hf (fun A E Q q => next_text ht st.2 hf (by simpa using q)) fun h' eb => ?_
      exact hQ h' s.toks fun b o hb e => eb b o (by simpa using hb) e
    self := fun _ _ _ _ st hQ => si_self st.1 hQ slot_si_iter entry_si_iter (args_si_iter _) }
  ty := fun _ _ st => st.1.typeIs
theorem walk_few (hh : A.handled = none) (hne : a ≠ it) (ht : w.params.followText "set-order" = false) (hl : t.led = true) (h1 : es.size ≤ 1) (hf : t.fits es.size = true) :
    SetWalk prog w A it [it, a] (es.toList.map (·.2)) (fun i h => (∃ slot : Nat, IsSI h it (.int slot 0) i a es.size ep ∧ (i = 0 → slot = 0) ∧ (0 < i → ∀ j, t.place[0]? = some j → slot = j + 1)) ∧ h.get? a = some (setObj es ep t)) where
  ws := {
    sub := fun b hb => by simp at hb; simp [hb]
    frame := fun _ _ _ ⟨⟨sl, st, r⟩, st2⟩ hk => ⟨⟨sl, st.at fun o e => hk it (by simp) o e, r⟩, hk a (by simp) _ st2⟩
    item := fun i s Q E hi st hQ => by
      obtain ⟨⟨sl, st1, z1, z2⟩, st2⟩ := st
      have hlt : i < es.size := by simpa using hi
      have i0 : i = 0 := by omega
      subst i0
      have z1 := z1 rfl
      subst z1
      have hps : t.place.size = 1 := by
        have := hf
        unfold SetTable.fits at this
        simp at this
        omega
      obtain ⟨j, hj⟩ : ∃ j, t.place = #[j] := by
        match hp : t.place, hps with
        | ⟨[j]⟩, _ => exact ⟨j, rfl⟩
      have e0 : SetTable.below t.place 0 = 0 := by rw [hj, below_one, if_neg (by omega)]
      refine si_next_s (slot := 0) (next := j + 1) (x := es[0].2) st1 st2 hf (fun A E Q q => next_few ht hl h1 st2 hf ?_) fun h' hit sb => ?_
      · rw [e0, hj]
        simpa [hlt] using q
      · exact hQ _ h' s.toks (by simp [hlt]) ⟨⟨j + 1, hit, fun z => by omega, fun _ j' e => by rw [hj] at e; simpa using e⟩, (sb.2 a hne).trans st2⟩ fun b o hb e => (sb.2 b (by simpa using hb)).trans e
    done := fun s Q E st hQ => by
      obtain ⟨⟨sl, st1, z1, z2⟩, st2⟩ := st
      have hps : t.place.size = es.size := by
        have := hf
        unfold SetTable.fits at this
        simp at this
        omega
      rw [List.length_map, Array.length_toList] at st1 z1 z2
      refine si_end_s (slot := sl) hh st1 st2 hf (fun A E Q q => next_few ht hl h1 st2 hf ?_) fun h' eb => ?_
      · by_cases h0 : es.size = 0
        · have : es = #[] := Array.eq_empty_of_size_eq_zero h0
          subst this
          simpa using q
        · have hp1 : t.place.size = 1 := by omega
          obtain ⟨j, hj⟩ : ∃ j, t.place = #[j] := by
            match hp : t.place, hp1 with
            | ⟨[j]⟩, _ => exact ⟨j, rfl⟩
          have := z2 (by omega) j (by rw [hj]; rfl)
          subst this
          have e1 : SetTable.below t.place (j + 1) = 1 := by rw [hj, below_one, if_pos (by omega)]
          rw [e1]
          have : es[1]? = none := by simp; omega
          rw [this]
          exact q
      · exact hQ h' s.toks fun b o hb e => eb b o (by simpa using hb) e
    self := fun _ _ _ _ ⟨⟨_, st, _⟩, _⟩ hQ => si_self st hQ slot_si_iter entry_si_iter (args_si_iter _) }
  ty := fun _ _ ⟨⟨_, st, _⟩, _⟩ => st.typeIs
theorem walk_drawn {tp : Addr} {places : List Nat} (hh : A.handled = none) (hne : a ≠ it) (hnt : tp ≠ it) (hf : t.fits es.size = true) (hp : ∀ p ∈ places, p < es.size) :
    SetWalk prog w A it [it, a, tp] (places.map fun p => ((es[p]?).getD (0, .none)).2) (fun i h => IsSI h it (.ref tp) i a es.size ep ∧ h.get? a = some (setObj es ep t) ∧ ∃ o k, h.get? tp = some o ∧ o.data = .seq (places.map fun j => rawInt (j : Nat)).toArray k) where
  ws := {
    sub := fun b hb => by simp at hb; simp [hb]
    frame := fun _ _ _ ⟨st, st2, o, k, e, d⟩ hk => ⟨st.at fun o e => hk it (by simp) o e, hk a (by simp) _ st2, o, k, hk tp (by simp) _ e, d⟩
    item := fun i s Q E hi st hQ => by
      have hlt : i < places.length := by simpa using hi
      have hps := hp _ (List.getElem_mem hlt)
      obtain ⟨st1, st2, o, k, e, d⟩ := st
      refine si_next_d (p := places[i]) (x := es[places[i]]) st1 st2 hf hne.symm hnt.symm ⟨o, k, e, d⟩ (by simp [hlt]) (by simp [hps]) fun h' hit sb => ?_
      exact hQ _ h' s.toks (by simp [hlt, hps]) ⟨hit, (sb.2 a hne).trans st2, o, k, (sb.2 tp hnt).trans e, d⟩ fun b o hb e => (sb.2 b (by simpa using hb)).trans e
    done := fun s Q E st hQ => by
      obtain ⟨st1, st2, o, k, e, d⟩ := st
      rw [List.length_map] at st1
      refine si_end_d hh st1 st2 hf ⟨o, k, e, d⟩ (by simp) fun h' eb => ?_
      exact hQ h' s.toks fun b o hb e => eb b o (by simpa using hb) e
    self := fun _ _ _ _ st hQ => si_self st.1 hQ slot_si_iter entry_si_iter (args_si_iter _) }
  ty := fun _ _ st => st.1.typeIs
end
end L2
namespace L2
open PySem
theorem map_range_get {α : Type} (es : Array α) (d : α) : (List.range es.size).map (fun p => (es[p]?).getD d) = es.toList := by
  apply List.ext_getElem
  · simp
  · intro i h1 h2
    simp at h1 h2 ⊢
    simp [h1]
section
variable {prog : Program} {w : World} {A A₂ : Around} {E : Value → Shared → Prop} {s : Shared} {a it : Addr} {es : Array (Int × Value)} {ep i n : Nat} {t : SetTable}
theorem setObj_ty (ha : s.heap.get? a = some (setObj es ep t)) : s.TypeIs (.ref a) "set" := ⟨_, ha, rfl⟩
theorem iter_set (hh : A₂.handled = none) (ha : s.heap.get? a = some (setObj es ep t)) (hf : t.fits es.size = true) (ht : Tb w t es.size) (hb : es.size ≤ sizeLine) {Q : Value → Shared → Prop}
    (h : ∀ it h' d fp ord St, SetWalk prog w A₂ it fp ord St → ord.Perm (es.toList.map (·.2)) → St 0 h' → (∀ b o, s.heap.get? b = some o → h'.get? b = some o) → (∀ b ∈ fp, (b = a ∨ s.heap.objs.size ≤ b) ∧ b < h'.objs.size) → it ∈ fp → it ≠ a →
      Q (.ref it) { s with heap := h', drawn := d }) : wpAny (model prog w) A (pyIter (.ref a)) Q E s := by
  have hT := setObj_ty ha
  have hlt : a < s.heap.objs.size := Heap.lt_size ha
  refine wpAny_pyIter_slot hT F.slot_set_iter (wpAny_call_entry F.slot_set_iter hT entry_s_iter ?_ (F.args_set_iter_1 _))
  unfold Builtin.«frozenset.__iter__»
  refine wpAny_bind (m := Builtin.Frozenset.slot0 _ _) (wpAny_pure ?_)
  refine wpAny_bind ?_
  show wpAny _ _ (do return (← setEntries a).size) _ _ s
  refine wpAny_bind (wpAny_setEntries_of ha rfl hf (wpAny_pure ?_))
  refine wpAny_bind ?_
  unfold setDrawn
  refine wpAny_bind (wpAny_setState_of ha rfl hf ?_)
  dsimp only
  refine wpAny_bind (byText_is (wpAny_pure ?_))
  have fin : ∀ (first : Value) (s1 : Shared), s1.heap.get? a = some (setObj es ep t) → (∀ (h2 : Q (.ref s1.heap.objs.size) { s1 with heap := s1.heap.push { cls := .type "set_iterator", data := .fields #[first, .int (0 : Nat) 0, .ref a, .int es.size 0, .int ep 0] } }),
      wpAny (model prog w) A.in1 (do ret (← newFields "set_iterator" [first, rawInt 0, .ref a, rawInt es.size, rawInt (← setEpoch a)])) (fun fin s' => ∃ v, fin = .done (.ret v) ∧ ∃ T' r, s'.TypeIs v T' ∧ typeLookup (.type T') "__next__" = pure (some r) ∧ Q v s') E s1) := fun first s1 h1 h2 => by
    refine wpAny_bind (wpAny_setEpoch_of h1 rfl hf ?_)
    refine wpAny_bind (wpAny_newObj_type (wpAny_pure ⟨_, rfl, "set_iterator", _, ⟨_, Heap.get?_push_size _ rfl, rfl⟩, slot_si_next.lookup, ?_⟩))
    exact h2
  by_cases hbt : w.params.followText "set-order" = true
  · rw [hbt, if_neg (by simp)]
    refine wpAny_bind (wpAny_pure (fin _ s ha ?_))
    have W := walk_text (prog := prog) (w := w) (A := A₂) (a := a) (it := s.heap.objs.size) (es := es) (ep := ep) (t := t) hh (Nat.ne_of_lt hlt) hbt hf
    refine h _ (s.heap.push _) s.drawn _ _ _ W ?_ ⟨⟨_, Heap.get?_push_size _ rfl, rfl, rfl⟩, Heap.get?_push_of_some _ ha⟩ (fun b o e => Heap.get?_push_of_some _ e) (fun b hb => ?_) (by simp) (Nat.ne_of_gt hlt)
    · exact (pick_perm _ es).map _
    · rw [Heap.size_push]
      simp at hb
      rcases hb with rfl | rfl
      · exact ⟨.inr (Nat.le_refl _), Nat.lt_succ_self _⟩
      · exact ⟨.inl rfl, Nat.lt_succ_of_lt hlt⟩
  · have hbf : w.params.followText "set-order" = false := by simpa using hbt
    rw [hbf]
    have hled : t.led = true := by rw [ht.1, hbf]; rfl
    show wpAny _ _ (if (!false && (!t.plain && decide (es.size > 1))) = true then _ else _) _ _ s
    by_cases h1 : es.size ≤ 1
    · have e0 : (!false && (!t.plain && decide (es.size > 1))) = false := by rw [decide_eq_false (by omega)]; simp
      rw [if_neg (by rw [e0]; exact Bool.false_ne_true)]
      refine wpAny_bind (wpAny_pure (fin _ s ha ?_))
      have W := walk_few (prog := prog) (w := w) (A := A₂) (a := a) (it := s.heap.objs.size) (es := es) (ep := ep) (t := t) hh (Nat.ne_of_lt hlt) hbf hled h1 hf
      refine h _ (s.heap.push _) s.drawn _ _ _ W (.refl _) ⟨⟨0, ⟨_, Heap.get?_push_size _ rfl, rfl, rfl⟩, fun _ => rfl, fun z => by omega⟩, Heap.get?_push_of_some _ ha⟩ (fun b o e => Heap.get?_push_of_some _ e) (fun b hb => ?_) (by simp) (Nat.ne_of_gt hlt)
      rw [Heap.size_push]
      simp at hb
      rcases hb with rfl | rfl
      · exact ⟨.inr (Nat.le_refl _), Nat.lt_succ_self _⟩
      · exact ⟨.inl rfl, Nat.lt_succ_of_lt hlt⟩
    · have e0 : (!false && (!t.plain && decide (es.size > 1))) = true := by rw [decide_eq_true (by omega), ht.2 (by omega)]; rfl
      rw [if_pos e0]
      refine wpAny_bind (order_any es.size (List.range es.size) s _ (by simp) fun ys d hp => ?_)
      unfold newTuple
      refine wpAny_bind (wpAny_newObj_type ?_ ?hs)
      case hs =>
        show (List.map (fun (i : Nat) => rawInt i) ys).toArray.size ≤ sizeLine
        have := hp.length_eq
        simp at this ⊢
        omega
      refine fin (.ref s.heap.objs.size) _ (Heap.get?_push_of_some _ ha) ?_
      have hys : ∀ p ∈ ys, p < es.size := fun p hm => by simpa using hp.mem_iff.mp hm
      have W := walk_drawn (prog := prog) (w := w) (A := A₂) (a := a) (it := (s.heap.push { cls := .type "tuple", data := .seq (List.map (fun (i : Nat) => rawInt i) ys).toArray }).objs.size) (tp := s.heap.objs.size) (es := es) (ep := ep) (t := t) (places := ys) hh
        (by rw [Heap.size_push]; exact Nat.ne_of_lt (Nat.lt_succ_of_lt hlt)) (by rw [Heap.size_push]; exact Nat.ne_of_lt (Nat.lt_succ_self _)) hf hys
      refine h _ _ d _ _ _ W ?_ ⟨⟨_, Heap.get?_push_size _ rfl, rfl, rfl⟩, Heap.get?_push_of_some _ (Heap.get?_push_of_some _ ha), _, 0, Heap.get?_push_of_some _ (Heap.get?_push_size _ rfl), rfl⟩ (fun b o e => Heap.get?_push_of_some _ (Heap.get?_push_of_some _ e)) (fun b hb => ?_) (by simp) (by rw [Heap.size_push]; exact Nat.ne_of_gt (Nat.lt_succ_of_lt hlt))
      · have q := hp.map (fun p => ((es[p]?).getD (0, .none)).2)
        have e1 : (List.range es.size).map (fun p => ((es[p]?).getD (0, .none)).2) = es.toList.map (·.2) := by
          have := congrArg (List.map (·.2)) (map_range_get es (0, Value.none))
          rw [List.map_map] at this
          exact this
        rw [e1] at q
        exact q
      · rw [Heap.size_push, Heap.size_push]
        simp at hb
        rcases hb with rfl | rfl | rfl
        · exact ⟨.inr (Nat.le_succ _), Nat.lt_succ_self _⟩
        · exact ⟨.inl rfl, Nat.lt_succ_of_lt (Nat.lt_succ_of_lt hlt)⟩
        · exact ⟨.inr (Nat.le_refl _), Nat.lt_succ_of_lt (Nat.lt_succ_self _)⟩
end
end L2
namespace L2
open PySem
theorem split_s_len : splitId "set.__len__" = some ("set", "__len__") := by kernel_rfl
theorem sub_s_s : isSubtype (.type "set") (.type "set") = pure true := by rw [isSubtype_type]; kernel_rfl
section
variable {prog : Program} {w : World} {A A₂ : Around} {E : Value → Shared → Prop} {s : Shared} {a it : Addr} {es : Array (Int × Value)} {ep i n : Nat} {t : SetTable}
theorem hint_set {Q : Bool → Shared → Prop} (ha : s.heap.get? a = some (setObj es ep t)) (h : Q false s) : wpAny (model prog w) A (Builtin.List.listLengthHint (.ref a)) Q E s := by
  unfold Builtin.List.listLengthHint
  have hT := setObj_ty ha
  refine wpAny_bind (wpAny_specialOf hT F.slot_set_len.lookup ?_)
  dsimp only
  rw [split_s_len]
  dsimp only
  refine wpAny_bind (wpAny_isInstance hT sub_s_s ?_)
  rw [if_neg (by simp)]
  show wpAny (model prog w) A (if true = true then _ else _) Q E s
  rw [if_pos rfl]
  refine wpAny_bind (wpAny_typeOf hT ?_)
  exact wpAny_pure h
theorem collect_set {Q : List Value → Shared → Prop} (hh : A.handled = none) (ha : s.heap.get? a = some (setObj es ep t)) (hf : t.fits es.size = true) (ht : Tb w t es.size) (hb : es.size ≤ sizeLine)
    (h : ∀ vs h' d tk, vs.Perm (es.toList.map (·.2)) → (∀ b o, s.heap.get? b = some o → h'.get? b = some o) → s.heap.objs.size ≤ h'.objs.size → Q vs { s with heap := h', drawn := d, toks := tk }) : wpAny (model prog w) A (collect (.ref a)) Q E s := by
  have hlt : a < s.heap.objs.size := Heap.lt_size ha
  unfold collect
  refine wpAny_bind (wpAny_runValue (codeAny_builtin F.entry_proto_collect ?_))
  rw [Around.under_plainId F.plain_proto_collect _]
  show wpAny _ A.in1 (newList [] >>= fun l => again (.builtin "list.__iadd__" ⟨[l, .ref a], []⟩)) _ _ s
  refine wpAny_bind (wpAny_newObj_type ?_)
  refine wpAny_pure ⟨plainId_quiet F.plain_list_iadd _, codeAny_builtin F.entry_list_iadd ?_⟩
  rw [Around.under_plainId F.plain_list_iadd _]
  generalize hN : s.heap.objs.size = S at *
  have g0 : (s.heap.push { cls := .type "list", data := .seq ([] : List Value).toArray }).get? S = some { cls := .type "list", data := .seq ([] : List Value).toArray } := hN ▸ Heap.get?_push_size _ rfl
  have kp0 : ∀ b o, s.heap.get? b = some o → (s.heap.push { cls := .type "list", data := .seq ([] : List Value).toArray }).get? b = some o := fun b o e => Heap.get?_push_of_some _ e
  have z0 : (s.heap.push { cls := .type "list", data := .seq ([] : List Value).toArray }).objs.size = S + 1 := by rw [Heap.size_push, hN]
  generalize s.heap.push { cls := .type "list", data := .seq ([] : List Value).toArray } = h0 at g0 kp0 z0 ⊢
  show wpAny _ A.in1 (Builtin.List.listExtendWith (.ref S) (.ref a) (.ref S)) _ _ _
  unfold Builtin.List.listExtendWith
  have hT0 : Shared.TypeIs { s with heap := h0 } (.ref a) "set" := ⟨_, kp0 _ _ ha, rfl⟩
  refine wpAny_bind (wpAny_typeOf hT0 ?_)
  have h1 : Builtin.List.listSameRef (.ref S) (.ref a) = false := by
    simp [Builtin.List.listSameRef]
    exact Nat.ne_of_gt hlt
  have h2 : (Value.type "set" == Value.type "list") = false := by decide
  have h3 : (Value.type "set" == Value.type "tuple") = false := by decide
  simp only [h1, h2, h3, Bool.or_false, Bool.false_eq_true, if_false]
  refine wpAny_bind (iter_set (A₂ := A.in1) (by simpa using hh) (show (Shared.heap { s with heap := h0 }).get? a = _ from kp0 _ _ ha) hf ht hb fun it h' d fp ord St W hp st kp fpo hit hia => ?_)
  have hz : ord.length = es.size := by
    have := hp.length_eq
    simpa using this
  have ha' : h'.get? a = some (setObj es ep t) := kp _ _ (kp0 _ _ ha)
  have gS : h'.get? S = some { cls := .type "list", data := .seq ([] : List Value).toArray } := kp _ _ g0
  have hSf : S ∉ fp := fun hm => by
    rcases (fpo S hm).1 with e | e
    · exact Nat.ne_of_gt hlt e
    · have e : S + 1 ≤ S := z0 ▸ e
      exact Nat.not_succ_le_self _ e
  refine wpAny_bind (wpAny_holding (hint_set ha' ?_))
  show wpAny _ A.in1 (if (false || _) = true then _ else _) _ _ _
  rw [if_pos (by first | rfl | decide)]
  refine wpAny_bind (wpAny_rule ?_)
  refine wpAny_bind ?_
  show wpAny _ A.in1 (updateSeq S (·.push .none) >>= fun _ => updateSeq S (·.pop)) _ _ _
  refine wpAny_bind (wpAny_updateSeq gS rfl ?_)
  have gS2 := Heap.get?_update_self (Obj.mapSeq (·.push Value.none)) gS rfl
  refine wpAny_updateSeq gS2 rfl ?_
  have gS3 := Heap.get?_update_self (Obj.mapSeq (·.pop)) gS2 rfl
  have oth : ∀ b o, b ≠ S → h'.get? b = some o → ((h'.update S (Obj.mapSeq (·.push Value.none))).update S (Obj.mapSeq (·.pop))).get? b = some o :=
    fun b o hb e => (Heap.get?_update_other _ _ (Ne.symm hb)).trans ((Heap.get?_update_other _ _ (Ne.symm hb)).trans e)
  generalize (h'.update S (Obj.mapSeq (·.push Value.none))).update S (Obj.mapSeq (·.pop)) = h3 at gS3 oth ⊢
  refine wpAny_pure ⟨plainId_quiet F.plain_extend_loop _, codeAny_extend_loopS W.ws.toS (by omega) S hSf _ ord.length 0 _ _ _ rfl (Nat.zero_le _)
    (W.ws.frame 0 h' h3 st fun b hb o e => oth b o (fun z => hSf (z ▸ hb)) e) gS3 (ItemsOf.nil _) fun s' acc' c' hm hS' hacc => ?_⟩
  show wpAny _ A (load S >>= _) _ _ s'
  refine wpAny_bind (wpAny_load hS' ?_)
  refine wpAny_pure ?_
  obtain ⟨h4, g4, d4, t4, o4⟩ := s'
  have eg : g4 = s.gens := hm.gens
  have ed : d4 = d := hm.drawn
  have eo : o4 = s.os := hm.os
  subst eg ed eo
  have ev : acc'.toList = ord := by
    apply List.ext_getElem?
    intro j
    by_cases hj : j < acc'.size
    · have := hacc.2 j acc'[j] (by simp [hj])
      rw [this]
      simp [hj]
    · have e1 : acc'.toList[j]? = none := by simp; omega
      have e2 : ord[j]? = none := by
        have := hacc.1
        simp
        omega
      rw [e1, e2]
  rw [ev]
  refine h ord h4 d4 t4 hp (fun b o e => ?_) (Nat.le_of_lt (Heap.lt_size hS'))
  have hbS : b ≠ S := Nat.ne_of_lt (hN ▸ Heap.lt_size e)
  have hbi : b ≠ it := fun z => by
    subst z
    rcases (fpo b hit).1 with e2 | e2
    · exact hia e2
    · have e2 : S + 1 ≤ b := z0 ▸ e2
      have e3 : b < S := hN ▸ Heap.lt_size e
      exact Nat.lt_irrefl _ (Nat.lt_of_lt_of_le e3 (Nat.le_of_succ_le e2))
  exact hm.heap b o (by simp [hbS, hbi]) (oth b o hbS (kp _ _ (kp0 _ _ e)))
end
end L2
namespace L2
open PySem
noncomputable def txKind (prog : Program) (w : World) : KeyKind prog w Str where
  is := Value.isStrOf
  hash := hashStr w
  inj := Value.isStrOf_inj
  byValue := fun k v h => by obtain ⟨t, rfl⟩ := Value.isStrOf_shape h; rfl
  pyHash := fun hv h => by obtain ⟨t, rfl⟩ := Value.isStrOf_shape hv; exact wpAny_pyHash_str h
  eqBool := fun hu hv h => by
    obtain ⟨t, rfl⟩ := Value.isStrOf_shape hu
    obtain ⟨u, rfl⟩ := Value.isStrOf_shape hv
    exact wpAny_eqBool_str h
  «strs» := fun k x t v h => by
    obtain ⟨u, e⟩ := Value.isStrOf_shape h
    cases e
    cases v <;> rfl
noncomputable def txOf : Value → Str
  | .str x _ => x
  | _ => ⟨#[]⟩
noncomputable def TxSet (w : World) (h : Heap) (a : Addr) (xs : List Str) : Prop :=
  ∃ es ep t, h.get? a = some (setObj es ep t) ∧ (∀ e ∈ es.toList, ∃ y u, e = (hashStr w y, Value.str y u)) ∧ es.toList.map (fun e => txOf e.2) = xs ∧ xs.Nodup ∧ es.size < scanBound ∧ t.fits es.size = true ∧ Tb w t es.size
theorem TxSet.at {w : World} {h h' : Heap} {a : Addr} {xs : List Str} (x : TxSet w h a xs) (e : ∀ o, h.get? a = some o → h'.get? a = some o) : TxSet w h' a xs :=
  let ⟨es, ep, t, g, r⟩ := x; ⟨es, ep, t, e _ g, r⟩
section
variable {prog : Program} {w : World} {A : Around} {E : Value → Shared → Prop} {s : Shared} {a : Addr}
theorem add_tx {xs : List Str} {y : Str} {tk : Tok} {Q : Bool → Shared → Prop} (hx : TxSet w s.heap a xs) (hb : xs.length + 1 < scanBound)
    (h1 : y ∈ xs → Q false s) (h2 : y ∉ xs → ∀ h' xs', Heap.SameBut a s.heap h' → xs'.Perm (xs ++ [y]) → TxSet w h' a xs' → Q true { s with heap := h' }) : wpAny (model prog w) A (setAddHashed a (.str y tk) (hashStr w y)) Q E s := by
  obtain ⟨es, ep, t, g, hel, hxs, hnd, hsz, hf, ht⟩ := hx
  have hl : xs.length = es.size := by rw [← hxs]; simp
  have hE : ElemsOf (txKind prog w) es.toList := fun e he => by
    obtain ⟨z, u, rfl⟩ := hel e he
    exact ⟨⟨z, by show Value.isStrOf z (.str z u) = true; simp [Value.isStrOf], rfl⟩, rfl⟩
  have his : ∀ e ∈ es.toList, ((txKind prog w).is y e.2 = true ↔ txOf e.2 = y) := fun e he => by
    obtain ⟨z, u, rfl⟩ := hel e he
    constructor
    · intro q
      obtain ⟨u', q'⟩ := Value.isStrOf_shape (show Value.isStrOf y (.str z u) = true from q)
      cases q'
      rfl
    · intro q
      have q : z = y := q
      subst q
      show Value.isStrOf z (.str z u) = true
      simp [Value.isStrOf]
  refine add_text (knd := txKind prog w) (k := y) (by show Value.isStrOf y (.str y tk) = true; simp [Value.isStrOf]) g ⟨rfl, rfl, rfl⟩ rfl hE (by omega) hf ht (fun ⟨e, he, q⟩ => h1 ?_) fun hno h' es' t' ep' sb g' hp hf' ht' => h2 ?_ h' (es'.toList.map fun e => txOf e.2) sb ?_ ⟨es', ep', t', g', ?_, rfl, ?_, ?_, hf', ht'⟩
  · rw [← hxs]
    exact List.mem_map.mpr ⟨e, he, (his e he).mp q⟩
  · intro hm
    rw [← hxs] at hm
    obtain ⟨e, he, q⟩ := List.mem_map.mp hm
    have := hno e he
    rw [(his e he).mpr q] at this
    cases this
  · have q := hp.map fun e => txOf e.2
    rw [List.map_append, hxs] at q
    exact q
  · intro e he
    rcases List.mem_append.mp (hp.mem_iff.mp he) with q | q
    · exact hel e q
    · rw [List.mem_singleton] at q
      exact ⟨y, tk, q⟩
  · have q := hp.map fun e => txOf e.2
    rw [List.map_append, hxs] at q
    refine q.nodup_iff.mpr (List.nodup_append.mpr ⟨hnd, by simp, fun z hz z' hz' => ?_⟩)
    have hz' : z' = y := by simpa [txOf] using hz'
    subst hz'
    rintro rfl
    rw [← hxs] at hz
    obtain ⟨e, he, q⟩ := List.mem_map.mp hz
    have := hno e he
    rw [(his e he).mpr q] at this
    cases this
  · have := hp.length_eq
    simp at this
    omega
end
section
variable {prog : Program} {w : World} {A : Around} {R : Result → Shared → Prop} {I : Addr} {fp wr : List Addr} {G : Array GenState → Array GenState → Prop} {n : Nat} {P : Nat → Value → Prop} {St : Nat → Shared → Prop}
theorem entry_su_loop : entryFor table "set.update.loop" = some Builtin.«set.update.loop» := entryFor_of_tree (by kernel_rfl)
theorem plain_su_loop : plainId "set.update.loop" = true := by decide +kernel
theorem fill_tx (W : WalksS prog w A.in1 I fp wr G n P St) (S : Addr) (hSf : S ∉ fp) (val : Nat → Str) (hval : ∀ i v, P i v → ∃ t, v = .str (val i) t) (hb : n + 1 < scanBound) :
    ∀ (k i : Nat) (s : Shared) (xs : List Str), n - i = k → i ≤ n → St i s → TxSet w s.heap S xs → xs.length ≤ i → (∀ z, z ∈ xs ↔ ∃ j, j < i ∧ val j = z) →
      (∀ s' xs', Moved (S :: wr) G s s' → TxSet w s'.heap S xs' → (∀ z, z ∈ xs' ↔ ∃ j, j < n ∧ val j = z) → R (.ok (.ret .none)) s') →
      codeAny (model prog w) A (.builtin "set.update.loop" ⟨[.ref S, .ref I], []⟩) R s := by
  have hSw : S ∉ wr := fun h => hSf (W.sub _ h)
  have sub : ∀ b ∈ wr, b ∈ S :: wr := fun b hb => List.mem_cons_of_mem _ hb
  intro k
  induction k with
  | zero =>
    intro i s xs hk hi hst hS hl hm hR
    have : i = n := by omega
    subst this
    refine codeAny_builtin entry_su_loop ?_
    rw [Around.under_plainId plain_su_loop _]
    show wpAny _ A.in1 (pyNext (.ref I) >>= _) _ _ s
    refine wpAny_bind (W.done s _ _ hst fun s' mv => wpAny_pure (hR s' xs (mv.mono sub) (hS.at fun o e => mv.heap S _ hSw e) hm))
  | succ k ih =>
    intro i s xs hk hi hst hS hl hm hR
    have hlt : i < n := by omega
    refine codeAny_builtin entry_su_loop ?_
    rw [Around.under_plainId plain_su_loop _]
    show wpAny _ A.in1 (pyNext (.ref I) >>= _) _ _ s
    refine wpAny_bind (W.item i s _ _ hlt hst fun v s' hP hst' mv => ?_)
    obtain ⟨tk, rfl⟩ := hval i v hP
    have hS' : TxSet w s'.heap S xs := hS.at fun o e => mv.heap S _ hSw e
    show wpAny _ A.in1 (holding [Value.str (val i) tk] (setAdd S (.str (val i) tk)) >>= _) _ _ s'
    refine wpAny_bind (wpAny_holding ?_)
    unfold setAdd
    refine wpAny_holding (wpAny_bind (wpAny_pyHash_str ?_))
    have go : ∀ (s2 : Shared) (xs2 : List Str), Moved (S :: wr) G s s2 → St (i + 1) s2 → TxSet w s2.heap S xs2 → xs2.length ≤ i + 1 → (∀ z, z ∈ xs2 ↔ z ∈ xs ∨ z = val i) → codeAny (model prog w) A (.builtin "set.update.loop" ⟨[.ref S, .ref I], []⟩) R s2 := fun s2 xs2 mv2 st2 t2 l2 m2 => by
      refine ih (i + 1) s2 xs2 (by omega) (by omega) st2 t2 l2 (fun z => ?_) fun s3 xs3 mv3 t3 m3 => hR s3 xs3 (Moved.trans W.gtrans mv2 mv3) t3 m3
      rw [m2, hm]
      constructor
      · rintro (⟨j, hj, e⟩ | rfl)
        · exact ⟨j, by omega, e⟩
        · exact ⟨i, by omega, rfl⟩
      · rintro ⟨j, hj, e⟩
        by_cases q : j < i
        · exact .inl ⟨j, q, e⟩
        · have : j = i := by omega
          subst this
          exact .inr e.symm
    refine add_tx (s := { s' with toks := s'.toks + 1 }) hS' (by omega) (fun hin => ?_) fun hout h' xs' sb hp ht => ?_
    · refine wpAny_pure ⟨plainId_quiet plain_su_loop _, go _ xs ((mv.mono sub).then_heap (Nat.le_succ _) fun b o _ e => e) ?_ hS' (by omega) fun z => ⟨.inl, fun q => q.elim id fun e => e ▸ hin⟩⟩
      exact W.frame _ s' _ _ hst' (Nat.le_succ _) fun b _ o e => e
    · refine wpAny_pure ⟨plainId_quiet plain_su_loop _, go _ xs' ((mv.mono sub).then_heap (Nat.le_succ _) fun b o hb e => ?_) ?_ ht ?_ fun z => ?_⟩
      · rw [sb.2 b (fun q : b = S => hb (by rw [q]; exact List.mem_cons_self))]; exact e
      · exact W.frame _ s' _ _ hst' (Nat.le_succ _) fun b hb o e => by rw [sb.2 b (fun q : b = S => hSf (by rw [← q]; exact hb))]; exact e
      · have := hp.length_eq
        simp at this
        omega
      · rw [hp.mem_iff]
        simp
end
end L2
namespace L2
open PySem
section
variable {prog : Program} {w : World} {A : Around} {E : Value → Shared → Prop} {s : Shared}
noncomputable abbrev newSetObj (w : World) : Obj := setObj #[] 0 (.fresh 0 0 (!(w.params.followText "set-order")))
theorem set_new1 (a : Value) {Q₁ : Value → Shared → Prop} (h : Q₁ (.ref s.heap.objs.size) { s with heap := s.heap.push (newSetObj w) }) :
    codeAny (model prog w) A (.call (.builtin "set.__new__") ⟨[.type "set", a], []⟩) (wants Q₁ E) s := by
  refine codeAny_of_tree ?_
  show wpAny _ A.in1 (checkBuiltinCall "set.__new__" ⟨[.type "set", a], []⟩ >>= fun _ => again (.builtin "set.__new__" ⟨[.type "set", a], []⟩)) _ _ s
  refine wpAny_bind (wpAny_of_eq (F.newCall_set_1 a) (wpAny_pure ⟨plainId_quiet F.plain_set_new _, codeAny_builtin F.entry_set_new ?_⟩))
  rw [Around.under_plainId F.plain_set_new _]
  unfold Builtin.«set.__new__» Builtin.Frozenset.newClass
  have hsub := sub_set_self
  obtain ⟨hp, g, d, tk, os⟩ := s
  dsimp only
  wp_walk
  refine wpAny_askSetting (wpAny_pure ?_)
  dsimp only
  simp only [newObj]
  exact wpAny_bind (wpAny_alloc (wpAny_pure (wpAny_pure h)))
theorem txset_new {h : Heap} {a : Addr} (g : h.get? a = some (newSetObj w)) : TxSet w h a [] :=
  ⟨#[], 0, _, g, fun e he => by simp at he, rfl, List.nodup_nil, by decide, rfl, rfl, fun z => absurd rfl z⟩
set_option maxRecDepth 100000 in
set_option maxHeartbeats 3200000 in
theorem set_texts {l : Addr} {items : Array Value} {xs : List Str} {Q : Value → Shared → Prop} (hh : A.handled = none) (hl : s.heap.IsList l items) (hi : ∀ (i : Nat) (v : Value), items[i]? = some v → ∃ t, v = .str (xs.getD i ⟨#[]⟩) t) (hlen : items.size = xs.length) (hb : xs.length + 1 < scanBound)
    (h : ∀ h' tk ys, TxSet w h' s.heap.objs.size ys → (∀ z, z ∈ ys ↔ z ∈ xs) → (∀ b o, b < s.heap.objs.size → s.heap.get? b = some o → h'.get? b = some o) → Q (.ref s.heap.objs.size) { s with heap := h', toks := tk }) :
    wpAny (model prog w) A (call (.type "set") [.ref l]) Q E s := by
  obtain ⟨c, tl, hmro⟩ := F.called_set.mro
  have hmade := F.called_set.made
  have hsub := F.called_set.sub
  refine wpAny_call (codeAny_of_tree ?_)
  show wpAny _ _ (callAny (.type "set") _) _ _ _
  refine wpAny_pure ⟨Code.quiet_builtin _ (by decide +kernel), codeAny_builtin F.entry_type_call ?_⟩
  rw [Around.under_plain (weight_type_call_type "set" [.ref l] []) rfl]
  have h1 := F.called_set.notType
  have h2 := F.called_set.canCreate
  have hct := F.typeCall_set_1 (.ref l)
  repeat (any_goals (first | assumption | wp_step))
  refine codeAny_mono (set_new1 (.ref l) (E := E) (Q₁ := fun obj s₁ => obj = .ref s.heap.objs.size ∧ s₁ = { s with heap := s.heap.push (newSetObj w) }) ⟨rfl, rfl⟩) fun r s₁ hr => ?_
  cases r with
  | error e => exact hr
  | ok fl =>
    cases fl with
    | ret obj =>
      obtain ⟨rfl, rfl⟩ := hr
      have hS : (s.heap.push (newSetObj w)).get? s.heap.objs.size = some (newSetObj w) := Heap.get?_push_size _ rfl
      have hT : Shared.TypeIs { s with heap := s.heap.push (newSetObj w) } (.ref s.heap.objs.size) "set" := ⟨_, hS, rfl⟩
      have hli := F.called_set.init.lookup
      have hbi := F.called_set.init.bind (.ref s.heap.objs.size)
      repeat (any_goals (first | assumption | wp_step))
      refine codeAny_mono (codeAny_call_builtin (R := wants (fun r s₂ => r = .none ∧ ∃ h' tk ys, s₂ = { s with heap := h', toks := tk } ∧ TxSet w h' s.heap.objs.size ys ∧ (∀ z, z ∈ ys ↔ z ∈ xs) ∧
          (∀ b o, b < s.heap.objs.size → s.heap.get? b = some o → h'.get? b = some o)) E) F.called_set.init.plain F.entry_set_init (check_set_init_1 hT ?_)) fun r₂ s₂ hr₂ => ?_
      · obtain ⟨ol, hol, hcl, nl, hdl⟩ := hl
        obtain ⟨ocls, odict, odata, oslots⟩ := ol
        simp only at hcl hdl
        subst hcl; subst hdl
        have hol' : (s.heap.push (newSetObj w)).get? l = some { cls := .type "list", dict := odict, data := .seq items nl, slots := oslots } := Heap.get?_push_of_some _ hol
        have hsls := F.sub_list_set
        have hslf := F.sub_list_frozenset
        have hne : (Value.type "list" == Value.type "dict") = false := by decide
        have hl1 : (s.heap.push (newSetObj w)).IsList l items := ⟨_, hol', rfl, nl, rfl⟩
        unfold Builtin.«set.__init__» noKeywords Builtin.Frozenset.updateFrom
        generalize hPI : pyIter = PI
        wp_walk
        subst hPI
        refine wpAny_pyIter_list hl1 ?_
        refine wpAny_bind (wpAny_runValue ?_)
        have hlS : l < s.heap.objs.size := Heap.lt_size hol
        have hh3 : A.in1.in1.in1.handled = none := by simp [hh]
        have zP : (s.heap.push (newSetObj w)).objs.size = s.heap.objs.size + 1 := Heap.size_push ..
        have hneI : l ≠ (s.heap.push (newSetObj w)).objs.size := by rw [zP]; exact Nat.ne_of_lt (Nat.lt_succ_of_lt hlS)
        have hSf : s.heap.objs.size ∉ [(s.heap.push (newSetObj w)).objs.size, l] := by
          rw [zP]
          simp only [List.mem_cons, List.not_mem_nil, or_false, not_or]
          exact ⟨Nat.ne_of_lt (Nat.lt_succ_self _), Nat.ne_of_gt hlS⟩
        refine fill_tx ((Walks.list hh3 _ l hneI items).toS) s.heap.objs.size hSf (fun i => xs.getD i ⟨#[]⟩) hi (by rw [hlen]; exact hb) (items.size - 0) 0 _ [] (by omega) (Nat.zero_le _)
          ⟨⟨_, Heap.get?_push_size _ rfl, rfl, rfl⟩, (hl1.push _)⟩ (txset_new (Heap.get?_push_of_some _ hS)) (Nat.le_refl _) (fun z => by simp) fun s' ys hm hS' hmem => ?_
        obtain ⟨h', g', d', tk', os'⟩ := s'
        have eg : g' = s.gens := hm.gens
        have ed : d' = s.drawn := hm.drawn
        have eo : os' = s.os := hm.os
        subst eg ed eo
        refine wpAny_pure ?_
        refine wpAny_pure ⟨rfl, h', tk', ys, rfl, hS', fun z => ?_, fun b o hb e => ?_⟩
        · rw [hmem, hlen]
          constructor
          · rintro ⟨j, hj, rfl⟩
            have : xs.getD j ⟨#[]⟩ = xs[j] := by simp [List.getD, hj]
            rw [this]
            exact List.getElem_mem hj
          · intro hz
            obtain ⟨j, hj, e⟩ := List.getElem_of_mem hz
            exact ⟨j, hj, by simp [List.getD, hj, e]⟩
        · have hb1 : b ≠ s.heap.objs.size := Nat.ne_of_lt hb
          have hb2 : b ≠ (s.heap.push (newSetObj w)).objs.size := by rw [zP]; exact Nat.ne_of_lt (Nat.lt_succ_of_lt hb)
          exact hm.heap b o (by simp only [List.mem_cons, List.not_mem_nil, or_false, not_or]; exact ⟨hb1, hb2⟩) (Heap.get?_push_of_some _ (Heap.get?_push_of_some _ e))
      · cases r₂ with
        | error e => exact hr₂
        | ok fl₂ =>
          cases fl₂ with
          | ret r =>
            obtain ⟨rfl, h', tk, ys, rfl, q1, q2, q3⟩ := hr₂
            repeat (any_goals (first | assumption | wp_step))
            exact h _ _ _ q1 q2 q3
          | _ => exact hr₂.elim
    | _ => exact hr.elim
end
end L2
namespace L2
open PySem PyProof.Rows
theorem strsAre_of : ∀ {vs : List Value} , (∀ v ∈ vs, ∃ y u, v = .str y u) → StrsAre vs (vs.map txOf)
  | [], _ => .nil
  | v :: vs, h => by
    obtain ⟨y, u, rfl⟩ := h v (List.mem_cons_self ..)
    exact .cons y u (strsAre_of fun x hx => h x (List.mem_cons_of_mem _ hx))
section
variable {prog : Program} {w : World} {A : Around} {E : Value → Shared → Prop} {s : Shared}
theorem sorted_col {a : Addr} {xs : List Str} {Q : Value → Shared → Prop} (h64 : xs.length < 64)
    (hc : ∀ (A' : Around) (Q' : List Value → Shared → Prop), A'.handled = A.handled → (∀ vs h' d tk, (∃ ss, StrsAre vs ss ∧ ss.Perm xs) → (∀ b o, s.heap.get? b = some o → h'.get? b = some o) → s.heap.objs.size ≤ h'.objs.size → Q' vs { s with heap := h', drawn := d, toks := tk }) → wpAny (model prog w) A' (collect (.ref a)) Q' E s)
    (h : ∀ h' d tk L its ys n, s.heap.objs.size ≤ L → StrsAre its ys → ys.Perm xs → sortedS ys = true → h'.get? L = some (seqObj "list" its.toArray n) → (∀ b o, s.heap.get? b = some o → h'.get? b = some o) → Q (.ref L) { s with heap := h', drawn := d, toks := tk }) :
    wpAny (model prog w) A (call (.builtin "sorted") [.ref a]) Q E s := by
  refine Calls.call_function_entry kind_sorted plain_sorted entry_sorted (args_sorted1 _) ?_
  unfold Builtin.«sorted»
  refine wpAny_bind (m := checkCount "sorted" 1 1 _) (wpAny_pure ?_)
  refine wpAny_bind (hc _ _ (by simp) fun vs h1 d tk ⟨ss, hS, hp⟩ kp hge => ?_)
  have hv : vs.length = xs.length := by rw [← hp.length_eq, ← hS.strs, List.length_map]
  refine wpAny_bind (wpAny_newList ?_ (by rw [sizeLine_eq]; omega))
  have g0 : (h1.push (seqObj "list" vs.toArray 0)).get? h1.objs.size = some (seqObj "list" vs.toArray 0) := Heap.get?_push_size _ rfl
  show wpAny _ _ _ _ _ { s with heap := h1.push (seqObj "list" vs.toArray 0), drawn := d, toks := tk }
  refine wpAny_bind (wpAny_holding (wpAny_call_entry slot_list_sort ⟨_, g0, rfl⟩ entry_list_sort (list_sort_treeK strKind_oneLt g0 hS.keysOf (fun v₁ v₂ rest e => keyKind_strs (by rw [← e]; exact hS)) (by omega) fun st' a1 a2 => ⟨_, rfl, ?_⟩) (args_list_sort _)))
  refine wpAny_pure ⟨_, rfl, ?_⟩
  obtain ⟨ys, q1, q2, q3⟩ := sorted_out_str hS a1 a2
  obtain ⟨e, he⟩ := sortedHeap_at (vs := vs) (out := (arrOf st').map (·.2)) g0
  refine h _ d tk h1.objs.size _ ys e hge q1 (q2.trans hp) q3 (by rw [Array.toArray_toList]; exact he) fun b o eb => ?_
  have hb1 := Heap.lt_size (kp b o eb)
  rw [sortedHeap_old (Nat.ne_of_lt hb1) (by rw [size_push']; exact Nat.lt_succ_of_lt hb1)]
  exact Heap.get?_push_of_some _ (kp b o eb)
theorem sorted_tx {a : Addr} {xs : List Str} {Q : Value → Shared → Prop} (hh : A.handled = none) (hx : TxSet w s.heap a xs) (h64 : xs.length < 64)
    (h : ∀ h' d tk L its ys n, s.heap.objs.size ≤ L → StrsAre its ys → ys.Perm xs → sortedS ys = true → h'.get? L = some (seqObj "list" its.toArray n) → (∀ b o, s.heap.get? b = some o → h'.get? b = some o) → Q (.ref L) { s with heap := h', drawn := d, toks := tk }) :
    wpAny (model prog w) A (call (.builtin "sorted") [.ref a]) Q E s := by
  refine sorted_col h64 (fun A' Q' hA q => ?_) h
  obtain ⟨es, ep, t, g, hel, hxs, hnd, hsz, hf, ht⟩ := hx
  refine collect_set (hA.trans hh) g hf ht (fits_of_scanBound hsz) fun vs h' d tk hp kp hge => q vs h' d tk ⟨_, strsAre_of fun v hv => ?_, ?_⟩ kp hge
  · obtain ⟨e, he, rfl⟩ := List.mem_map.mp (hp.mem_iff.mp hv)
    obtain ⟨y, u, rfl⟩ := hel e he
    exact ⟨y, u, rfl⟩
  · have := hp.map txOf
    rw [List.map_map] at this
    rw [← hxs]
    exact this
end
end L2
namespace L2
open PySem PyProof.Rows
theorem split_d_len : splitId "dict.__len__" = some ("dict", "__len__") := by kernel_rfl
theorem sub_d_d : isSubtype (.type "dict") (.type "dict") = pure true := by rw [isSubtype_type]; kernel_rfl
section
variable {prog : Program} {w : World} {K : Type} [DecidableEq K] {knd : KeyKind prog w K} {A A₂ : Around} {E : Value → Shared → Prop} {s : Shared} {a it : Addr} {kvs : List (K × Value)} {ep : Nat}
theorem hint_dict {Q : Bool → Shared → Prop} (hT : s.TypeIs (.ref a) "dict") (h : Q false s) : wpAny (model prog w) A (Builtin.List.listLengthHint (.ref a)) Q E s := by
  unfold Builtin.List.listLengthHint
  refine wpAny_bind (wpAny_specialOf hT F.slot_dict_len.lookup ?_)
  dsimp only
  rw [split_d_len]
  dsimp only
  refine wpAny_bind (wpAny_isInstance hT sub_d_d ?_)
  rw [if_neg (by simp)]
  show wpAny (model prog w) A (if true = true then _ else _) Q E s
  rw [if_pos rfl]
  refine wpAny_bind (wpAny_typeOf hT ?_)
  exact wpAny_pure h
theorem collect_keys {Q : List Value → Shared → Prop} (hh : A.handled = none) (hd : (a == sysModules) = false) (hm : s.heap.DictAt knd a kvs ep) (hb : kvs.length ≤ sizeLine)
    (h : ∀ vs h' tk, vs.length = kvs.length → (∀ (i : Nat) (v : Value), vs[i]? = some v → ∃ k x, kvs[i]? = some (k, x) ∧ knd.is k v = true) → (∀ b o, s.heap.get? b = some o → h'.get? b = some o) → s.heap.objs.size ≤ h'.objs.size → Q vs { s with heap := h', toks := tk }) :
    wpAny (model prog w) A (collect (.ref a)) Q E s := by
  have hlt : a < s.heap.objs.size := hm.lt_size
  unfold collect
  refine wpAny_bind (wpAny_runValue (codeAny_builtin F.entry_proto_collect ?_))
  rw [Around.under_plainId F.plain_proto_collect _]
  show wpAny _ A.in1 (newList [] >>= fun l => again (.builtin "list.__iadd__" ⟨[l, .ref a], []⟩)) _ _ s
  refine wpAny_bind (wpAny_newObj_type ?_)
  refine wpAny_pure ⟨plainId_quiet F.plain_list_iadd _, codeAny_builtin F.entry_list_iadd ?_⟩
  rw [Around.under_plainId F.plain_list_iadd _]
  generalize hN : s.heap.objs.size = S at *
  have g0 : (s.heap.push { cls := .type "list", data := .seq ([] : List Value).toArray }).get? S = some { cls := .type "list", data := .seq ([] : List Value).toArray } := hN ▸ Heap.get?_push_size _ rfl
  have kp0 : ∀ b o, s.heap.get? b = some o → (s.heap.push { cls := .type "list", data := .seq ([] : List Value).toArray }).get? b = some o := fun b o e => Heap.get?_push_of_some _ e
  have z0 : (s.heap.push { cls := .type "list", data := .seq ([] : List Value).toArray }).objs.size = S + 1 := by rw [Heap.size_push, hN]
  generalize s.heap.push { cls := .type "list", data := .seq ([] : List Value).toArray } = h0 at g0 kp0 z0 ⊢
  have hm0 : h0.DictAt knd a kvs ep := hm.keep kp0
  show wpAny _ A.in1 (Builtin.List.listExtendWith (.ref S) (.ref a) (.ref S)) _ _ _
  unfold Builtin.List.listExtendWith
  have hT0 : Shared.TypeIs { s with heap := h0 } (.ref a) "dict" := hm0.dictOf.typeIs
  refine wpAny_bind (wpAny_typeOf hT0 ?_)
  have h1 : Builtin.List.listSameRef (.ref S) (.ref a) = false := by
    simp [Builtin.List.listSameRef]
    exact Nat.ne_of_gt hlt
  have h2 : (Value.type "dict" == Value.type "list") = false := by decide
  have h3 : (Value.type "dict" == Value.type "tuple") = false := by decide
  simp only [h1, h2, h3, Bool.or_false, Bool.false_eq_true, if_false]
  refine wpAny_bind (wpAny_pyIter_dict (s := { s with heap := h0 }) hd hm0 ?_)
  have hni : a ≠ h0.objs.size := by rw [z0]; exact Nat.ne_of_lt (Nat.lt_succ_of_lt hlt)
  have W := Walks.dictKeys (prog := prog) (w := w) (knd := knd) (A := A.in1) (by simpa using hh) h0.objs.size a hni kvs ep
  have st : (h0.push { cls := .type "dict_keyiterator", data := .fields #[.ref a, .int (0 : Nat) 0, .int kvs.length 0, .int ep 0] }).IsKeyIter h0.objs.size a 0 kvs.length ep ∧
      (h0.push { cls := .type "dict_keyiterator", data := .fields #[.ref a, .int (0 : Nat) 0, .int kvs.length 0, .int ep 0] }).DictAt knd a kvs ep := ⟨⟨_, Heap.get?_push_size _ rfl, rfl, rfl⟩, hm0.push _⟩
  have kp1 : ∀ b o, h0.get? b = some o → (h0.push { cls := .type "dict_keyiterator", data := .fields #[.ref a, .int (0 : Nat) 0, .int kvs.length 0, .int ep 0] }).get? b = some o := fun b o e => Heap.get?_push_of_some _ e
  show wpAny _ A.in1 _ _ _ { s with heap := h0.push { cls := .type "dict_keyiterator", data := .fields #[.ref a, .int (0 : Nat) 0, .int kvs.length 0, .int ep 0] } }
  generalize h0.push { cls := .type "dict_keyiterator", data := .fields #[.ref a, .int (0 : Nat) 0, .int kvs.length 0, .int ep 0] } = h' at st kp1 ⊢
  have gS : h'.get? S = some { cls := .type "list", data := .seq ([] : List Value).toArray } := kp1 _ _ g0
  have hSf : S ∉ [h0.objs.size, a] := by
    rw [z0]
    simp only [List.mem_cons, List.not_mem_nil, or_false, not_or]
    exact ⟨Nat.ne_of_lt (Nat.lt_succ_self _), Nat.ne_of_gt hlt⟩
  refine wpAny_bind (wpAny_holding (hint_dict (show Shared.TypeIs { s with heap := h' } (.ref a) "dict" from st.2.dictOf.typeIs) ?_))
  show wpAny _ A.in1 (if (false || _) = true then _ else _) _ _ _
  rw [if_pos (by first | rfl | decide)]
  refine wpAny_bind (wpAny_rule ?_)
  refine wpAny_bind ?_
  show wpAny _ A.in1 (updateSeq S (·.push .none) >>= fun _ => updateSeq S (·.pop)) _ _ _
  refine wpAny_bind (wpAny_updateSeq gS rfl ?_)
  have gS2 := Heap.get?_update_self (Obj.mapSeq (·.push Value.none)) gS rfl
  refine wpAny_updateSeq gS2 rfl ?_
  have gS3 := Heap.get?_update_self (Obj.mapSeq (·.pop)) gS2 rfl
  have oth : ∀ b o, b ≠ S → h'.get? b = some o → ((h'.update S (Obj.mapSeq (·.push Value.none))).update S (Obj.mapSeq (·.pop))).get? b = some o :=
    fun b o hb e => (Heap.get?_update_other _ _ (Ne.symm hb)).trans ((Heap.get?_update_other _ _ (Ne.symm hb)).trans e)
  generalize (h'.update S (Obj.mapSeq (·.push Value.none))).update S (Obj.mapSeq (·.pop)) = h3 at gS3 oth ⊢
  refine wpAny_pure ⟨plainId_quiet F.plain_extend_loop _, codeAny_extend_loopS W.toS hb S hSf _ kvs.length 0 _ _ _ rfl (Nat.zero_le _)
    (W.frame 0 h' h3 st fun b hb o e => oth b o (fun z => hSf (z ▸ hb)) e) gS3 (ItemsOf.nil _) fun s' acc' c' mv hS' hacc => ?_⟩
  show wpAny _ A (load S >>= _) _ _ s'
  refine wpAny_bind (wpAny_load hS' ?_)
  refine wpAny_pure ?_
  obtain ⟨h4, g4, d4, t4, o4⟩ := s'
  have eg : g4 = s.gens := mv.gens
  have ed : d4 = s.drawn := mv.drawn
  have eo : o4 = s.os := mv.os
  subst eg ed eo
  refine h acc'.toList h4 t4 (by rw [Array.length_toList]; exact hacc.1) (fun i v hv => hacc.2 i v (by simpa using hv)) (fun b o e => ?_) (Nat.le_of_lt (Heap.lt_size hS'))
  have hbS : b < S := hN ▸ Heap.lt_size e
  exact mv.heap b o (by
    rw [z0]
    simp only [List.mem_cons, List.not_mem_nil, or_false, not_or]
    exact ⟨Nat.ne_of_lt hbS, Nat.ne_of_lt (Nat.lt_succ_of_lt hbS)⟩) (oth b o (Nat.ne_of_lt hbS) (kp1 _ _ (kp0 _ _ e)))
end
end L2
namespace L2
open PySem PyProof.Rows
section
variable {prog : Program} {w : World} {A : Around} {E : Value → Shared → Prop} {s : Shared}
variable {K : Type} [DecidableEq K] {knd : KeyKind prog w K}
end
end L2
namespace L2
open PySem PyProof.Rows
section
variable {prog : Program} {w : World} {K : Type} [DecidableEq K] {knd : KeyKind prog w K} {A : Around} {E : Value → Shared → Prop} {s : Shared} {d : Addr} {kvs : List (K × Value)} {k : K} {key dflt : Value}
theorem setdef_pairs {Q : Value → Shared → Prop} (hkey : knd.is k key = true) (hm : s.heap.DictOf knd d kvs) (hsz : kvs.length ≤ sizeLine)
    (h1 : ∀ v, valueAt kvs k = some v → Q v { s with toks := s.toks + 1 }) (h2 : valueAt kvs k = none → ∀ h', h'.DictOf knd d (kvs ++ [(k, dflt)]) → Heap.SameBut d s.heap h' → Q dflt { s with heap := h', toks := s.toks + 1 }) :
    wpAny (model prog w) A (dictSetDefault d key dflt) Q E s := by
  obtain ⟨o, es, ep, ho, hc0, hd, hk0, hf⟩ := hm.mapOf
  obtain ⟨o', es', ep', ho', hc, hd', hk, hp, hn⟩ := hm
  rw [ho] at ho'
  cases ho'
  rw [hd] at hd'
  cases hd'
  have hes : es.size ≤ sizeLine := by
    have e1 := hp.length
    simp at e1
    omega
  unfold dictSetDefault
  refine wpAny_holding (wpAny_bind (knd.pyHash hkey ?_))
  refine wpAny_bind (wpAny_dictFind_of (s := { s with toks := s.toks + 1 }) hkey ho hd hk ?_)
  have hidx : (es.findIdx? fun e => knd.is k e.key) = kvs.findIdx? fun kv => decide (kv.1 = k) := by
    rw [← hp.findIdx k]
    obtain ⟨l⟩ := es
    simp
  have hfk := hf k
  rw [findBy_of_findIdx?] at hfk
  cases hi : es.findIdx? fun e => knd.is k e.key with
  | some i =>
    rw [hi] at hfk
    have hlt : i < es.size := (Array.findIdx?_eq_some_iff_findIdx_eq.mp hi).1
    have hge : es[i]? = some es[i] := Array.getElem?_eq_getElem hlt
    refine wpAny_bind (wpAny_dictEntries (s := { s with toks := s.toks + 1 }) ho hd ?_)
    rw [hge]
    refine wpAny_bind (wpAny_rule (wpAny_pure (h1 _ ?_)))
    rw [← hfk]
    simp [hge]
  | none =>
    rw [hi] at hfk
    have hnot : k ∉ kvs.map (·.1) := not_mem_of_findIdx_none (hidx ▸ hi)
    refine wpAny_bind (wpAny_rule (wpAny_bind (wpAny_updateDictKeys (hz := hes) (s := { s with toks := s.toks + 1 }) ho hd (wpAny_pure (h2 hfk.symm _ ⟨_, _, ep + 1, Heap.get?_update_self _ ho (Obj.isFreed_of_dict (Obj.data_mapDictKeys hd _)),
      hc.mapDictKeys _, Obj.data_mapDictKeys hd _, hk.push hkey _, ?_, ?_⟩ (Heap.SameBut.update ..))))))
    · have := hp.append hkey (knd.hash k) dflt
      obtain ⟨l⟩ := es
      simpa using this
    · rw [List.map_append, List.nodup_append]
      refine ⟨hn, by simp, fun a ha b hb => ?_⟩
      have hb : b = k := by simpa using hb
      subst hb
      exact fun e => hnot (e ▸ ha)
theorem call_setdef {Q : Value → Shared → Prop} (hkey : knd.is k key = true) (hs : (d == sysModules) = false) (hm : s.heap.DictOf knd d kvs) (hsz : kvs.length ≤ sizeLine)
    (h1 : ∀ v, valueAt kvs k = some v → Q v { s with toks := s.toks + 1 }) (h2 : valueAt kvs k = none → ∀ h', h'.DictOf knd d (kvs ++ [(k, dflt)]) → Heap.SameBut d s.heap h' → Q dflt { s with heap := h', toks := s.toks + 1 }) :
    wpAny (model prog w) A (call (.builtin "dict.setdefault") [.ref d, key, dflt]) Q E s := by
  refine wpAny_call_entry F.slot_dict_setdefault hm.typeIs F.entry_dict_setdefault ?_ (F.args_dict_setdefault_3 _ _ _)
  unfold Builtin.«dict.setdefault»
  refine wpAny_bind ?_
  unfold Builtin.Dict.keyAndDefault
  refine wpAny_bind (wpAny_notOrdered_dict hm.typeIs ?_)
  show wpAny _ _ (pure (d, key, some dflt)) _ _ s
  refine wpAny_pure ?_
  show wpAny _ _ (if (d == sysModules) = true then _ else _) _ _ s
  rw [if_neg (by rw [hs]; exact Bool.false_ne_true)]
  refine wpAny_bind (setdef_pairs hkey hm hsz (fun v e => wpAny_pure ⟨_, rfl, h1 v e⟩) fun e h' hd' sb => wpAny_pure ⟨_, rfl, h2 e h' hd' sb⟩)
end
end L2
namespace L2
open PySem PyProof.Rows
theorem rising_pw : ∀ (p : Str) (l : List Str), risingS p l = true → (p :: l).Pairwise fun a b => a.cps.toList ≤ b.cps.toList
  | p, [], _ => by simp
  | p, x :: r, h => by
    have h : (!Spec.ltCps x.cps.toList p.cps.toList && risingS x r) = true := h
    rw [Bool.and_eq_true] at h
    have ih := rising_pw x r h.2
    have h1 : p.cps.toList ≤ x.cps.toList := by
      have := h.1
      rw [ltCps_eq] at this
      exact List.not_lt.mp (by simpa using this)
    refine List.pairwise_cons.mpr ⟨fun z hz => ?_, ih⟩
    rcases List.mem_cons.mp hz with rfl | hz
    · exact h1
    · exact List.le_trans h1 ((List.pairwise_cons.mp ih).1 z hz)
theorem sorted_pw : ∀ {l : List Str}, sortedS l = true → l.Pairwise fun a b => a.cps.toList ≤ b.cps.toList
  | [], _ => by simp
  | x :: r, h => rising_pw x r h
theorem sorted_uniq {xs ys : List Str} (h1 : sortedS xs = true) (h2 : sortedS ys = true) (hp : xs.Perm ys) : xs = ys := by
  refine List.Perm.eq_of_pairwise (le := fun a b => a.cps.toList ≤ b.cps.toList) (fun a b _ _ p q => ?_) (sorted_pw h1) (sorted_pw h2) hp
  have e := List.le_antisymm p q
  obtain ⟨⟨x⟩⟩ := a
  obtain ⟨⟨y⟩⟩ := b
  simp only at e
  rw [e]
end L2
namespace L2
open PySem PySem.Spec PyProof.Rows
noncomputable def melt (a : Addr) (H : Hp) : Hp := fun b => if b = a then (match H a with | some (.frz _ u) => some u | o => o) else H b
theorem melt_ne {a b : Addr} {H : Hp} (h : b ≠ a) : melt a H b = H b := by unfold melt; rw [if_neg h]
theorem melt_at {a : Addr} {H : Hp} {o : Obj} {u : HO} (h : H a = some (.frz o u)) : melt a H a = some u := by unfold melt; rw [if_pos rfl, h]
theorem melt_none {a b : Addr} {H : Hp} (h : H b = none) : melt a H b = none := by
  unfold melt
  split
  · rename_i e
    subst e
    rw [h]
  · exact h
theorem melt_old {a b : Addr} {H : Hp} {o : HO} (hn : ∀ ob u, o ≠ .frz ob u) (h : H b = some o) : melt a H b = some o := by
  unfold melt
  split
  · rename_i e
    subst e
    rw [h]
    cases o <;> first | rfl | exact absurd rfl (hn _ _)
  · exact h
section
variable {X : Cx} {pins : List (Addr × Obj)} {σ : St} {H : Hp} {s : Shared} {a : Addr}
theorem Inv.melt (I : Inv X pins σ H s) (h0 : ∀ o u, X.H₀ a ≠ some (.frz o u)) : Inv X pins σ (L2.melt a H) s := by
  refine ⟨I.ok, I.os, I.bare, ⟨I.base.keep, I.base.slot, fun b o e n hx => melt_none (I.base.free b o e n hx), I.base.there, fun b xs e => melt_old (fun _ _ z => nomatch z) (I.base.tups b xs e), fun b o u e => ?_, fun b ps e => ?_⟩,
    I.loc, I.cell, melt_none I.free, fun x c e => melt_none (I.freeC x c e), fun p hp => ?_, fun b u e => ?_, I.len⟩
  · have hb : b ≠ a := fun z => by subst z; exact h0 _ _ e
    rw [melt_ne hb]
    exact I.base.frzs b o u e
  · obtain ⟨more, q⟩ := I.base.tbls b ps e
    exact ⟨more, melt_old (fun _ _ z => nomatch z) q⟩
  · obtain ⟨e, n, r⟩ := I.pin p hp
    exact ⟨e, melt_none n, r⟩
  · have st : ∀ {v : HO}, ObjOk X.prog X.w H s.heap b v → ObjOk X.prog X.w (L2.melt a H) s.heap b v := fun {v} x =>
      x.stay (fun _ _ _ q => q) (fun c q => melt_old (fun _ _ z => nomatch z) q) fun c xs q => melt_old (fun _ _ z => nomatch z) q
    by_cases hb : b = a
    · subst hb
      cases q : H b with
      | none => rw [melt_none q] at e; cases e
      | some z =>
        have hz := I.hok b z q
        by_cases hf : ∃ o v, z = .frz o v
        · obtain ⟨o, v, rfl⟩ := hf
          rw [melt_at q] at e
          cases e
          exact st hz.2
        · rw [melt_old (fun o v w => hf ⟨o, v, w⟩) q] at e
          cases e
          exact st hz
    · rw [melt_ne hb] at e
      exact st (I.hok b u e)
theorem Inv.freeze {kvs : List (Key × V)} {o : Obj} (I : Inv X pins σ H s) (h : H a = some (.dK kvs)) (hg : s.heap.get? a = some o) : Inv X pins σ (upd H a (.frz o (.dK kvs))) s := by
  have ne : ∀ {b : Addr} {u : HO}, H b = some u → u ≠ .dK kvs → b ≠ a := fun {b u} e z w => by subst w; rw [h] at e; exact z (Option.some.inj e).symm
  have nn : ∀ {b : Addr}, H b = none → upd H a (.frz o (.dK kvs)) b = none := fun {b} e => by rw [upd_ne (fun w => by subst w; rw [h] at e; cases e)]; exact e
  have old : ∀ {b : Addr} {u : HO}, H b = some u → u ≠ .dK kvs → upd H a (.frz o (.dK kvs)) b = some u := fun {b u} e z => by rw [upd_ne (ne e z)]; exact e
  refine ⟨I.ok, I.os, I.bare, ⟨I.base.keep, I.base.slot, fun b o e n hx => nn (I.base.free b o e n hx), I.base.there, fun b xs e => old (I.base.tups b xs e) (fun z => nomatch z), fun b o u e => old (I.base.frzs b o u e) (fun z => nomatch z), fun b ps e => ?_⟩,
    I.loc, I.cell, nn I.free, fun x c e => nn (I.freeC x c e), fun p hp => ?_, fun b u e => ?_, I.len⟩
  · obtain ⟨more, q⟩ := I.base.tbls b ps e
    exact ⟨more, old q (fun z => nomatch z)⟩
  · obtain ⟨e, n, r⟩ := I.pin p hp
    exact ⟨e, nn n, r⟩
  · have st : ∀ {v : HO}, ObjOk X.prog X.w H s.heap b v → ObjOk X.prog X.w (upd H a (.frz o (.dK kvs))) s.heap b v := fun {v} x =>
      x.stay (fun _ _ _ q => q) (fun c q => old q (fun z => nomatch z)) fun c xs q => old q (fun z => nomatch z)
    by_cases hb : b = a
    · subst hb
      rw [upd_same] at e
      cases e
      exact ⟨hg, st (I.hok b _ h)⟩
    · rw [upd_ne hb] at e
      exact st (I.hok b u e)
end
noncomputable def Itd (a : Addr) (o : Obj) (kvs : List (Key × V)) : It :=
  ⟨fun i H => H a = some (.frz o (.dK kvs)) ∧ i < kvs.length, fun i H x H' => H' = H ∧ ∃ k v, kvs[i]? = some (k, v) ∧ x = kV k, fun i H => H a = some (.frz o (.dK kvs)) ∧ kvs.length ≤ i⟩
theorem kv_at {κ : Type} : ∀ {kvs : List (κ × V)} {vs : List (κ × Value)} {i : Nat} {k : κ} {v : V}, KV kvs vs → kvs[i]? = some (k, v) → ∃ u, vs[i]? = some (k, u)
  | _, _, _, _, _, .nil, e => by simp at e
  | _, _, 0, k, v, .cons (b := q) r _, e => by
    simp at e
    subst e
    exact ⟨q.2, by simp; exact Prod.ext r.1.symm rfl⟩
  | _, _, i + 1, k, v, .cons _ t, e => by
    obtain ⟨u, h⟩ := kv_at (i := i) (k := k) (v := v) t (by simpa using e)
    exact ⟨u, by simpa using h⟩
theorem key_rel {P : Program} {w : World} {k : Key} {u : Value} (h : (mixKind P w).is k u = true) : RelV (kV k) u := by
  rcases keyIs_shape h with ⟨i, t, rfl, rfl⟩ | ⟨x, t, rfl, rfl⟩
  · exact ⟨t, rfl⟩
  · exact ⟨t, rfl⟩
section
variable {X : Cx} {tg : Expr}
theorem dict_at {pins : List (Addr × Obj)} {σ : St} {H : Hp} {s : Shared} {a : Addr} {kvs : List (Key × V)} {o : Obj} (I : Inv X pins σ H s) (h : H a = some (.frz o (.dK kvs))) :
    (a == sysModules) = false ∧ ∃ vs es ep, KV kvs vs ∧ o.data = .dict es ep ∧ s.heap.DictAt (mixKind X.prog X.w) a vs ep := by
  obtain ⟨g, hz⟩ := I.hok a _ h
  obtain ⟨_, hd, vs, rel, o', es, ep, e, r⟩ := hz
  rw [g] at e
  cases e
  exact ⟨hd, vs, es, ep, rel, r.2.1, o, es, g, r⟩
theorem turn_dict {P : Program} {w : World} {K : PySem.W.Frag} (a it : Addr) (o : Obj) (kvs : List (Key × V)) : Turn P w K tg (Itd a o kvs) [it] it (fun i h => ∃ es ep, o.data = .dict es ep ∧ h.IsKeyIter it a i kvs.length ep) where
  mem := by simp
  obj := fun i h st b hb => by
    have e : b = it := by simpa using hb
    subst e
    obtain ⟨_, _, _, o, e, c, d⟩ := st
    exact ⟨o, e, fun v z => by rw [d] at z; cases z⟩
  keep := fun i h h' ⟨es, ep, q, st⟩ k => ⟨es, ep, q, st.at fun o e => k it (by simp) o e⟩
  item := by
    intro X hP hw hK hc i pins s σ H E I hf st hg
    subst hP hw hK
    obtain ⟨ha, hi⟩ := hg
    obtain ⟨hd, vs, es, ep, rel, ed, dd⟩ := dict_at I ha
    obtain ⟨es', ep', ed', st⟩ := st
    rw [ed] at ed'
    cases ed'
    obtain ⟨f0, f1, f2, f3, f4, f5⟩ := hf it (by simp)
    obtain ⟨⟨k, v⟩, hx⟩ : ∃ p, kvs[i]? = some p := ⟨_, List.getElem?_eq_getElem hi⟩
    obtain ⟨u, hu⟩ := kv_at rel hx
    rw [rel.length] at st
    refine wpAny_pyNext_dict_item st dd hu fun key h' hkey hit' sb => ?_
    rw [← rel.length] at hit'
    have I1 : Inv X pins σ H { s with heap := h' } := I.turned (t' := s.toks) (fun b o hb e => (sb.2 b hb).trans e) f0 f1 f3 f4 f5
    obtain ⟨oi, e, c, d⟩ := id hit'
    exact ⟨key, rfl, go_of (s := { s with heap := h' }) e c d (by decide) ⟨kV k, H, I1, key_rel hkey, ⟨rfl, k, v, hx, rfl⟩, ⟨es, ep, ed, hit'⟩, fun b hb => (hf b hb).1⟩⟩
  done := by
    intro X hP hw hK hc i pins s σ H E I hf st hg
    subst hP hw hK
    obtain ⟨ha, hi⟩ := hg
    obtain ⟨hd, vs, es, ep, rel, ed, dd⟩ := dict_at I ha
    obtain ⟨es', ep', ed', st⟩ := st
    rw [ed] at ed'
    cases ed'
    obtain ⟨f0, f1, f2, f3, f4, f5⟩ := hf it (by simp)
    rw [rel.length] at st hi
    exact wpAny_pyNext_dict_end (I.ok.hd hc) st dd (by simpa using hi) fun h' eb => ⟨rfl, I.turned (t' := s.toks) (fun b o hb e => eb b o hb e) f0 f1 f3 f4 f5⟩
  self := fun _ _ _ _ _ ⟨_, _, _, st⟩ h => wpAny_pyIter_keyiter st h
noncomputable def iDict (a : Addr) (tl : TE) : TI := fun σ H R => tl σ H fun x H1 => x = .ref a ∧ ∃ kvs, H1 a = some (.dK kvs) ∧ ∀ o, R (Itd a o kvs) (upd H1 a (.frz o (.dK kvs)))
theorem pi_dict {l : Expr} {tl : TE} (a : Addr) (hl : PE X l tl) : PI X tg l (iDict a tl) := by
  intro pins s σ H R I h
  refine thn (hl pins s σ H _ I h) fun v s1 ⟨x, H1, I1, r1, q1⟩ => ?_
  obtain ⟨e, kvs, hk, q⟩ := q1
  subst e
  cases r1
  obtain ⟨_, hd, vs, rel, o, es, ep, g, r⟩ := I1.hok a _ hk
  have I2 := I1.freeze hk g
  refine wpAny_pyIter_dict hd ⟨o, es, g, r⟩ ?_
  refine ⟨s1.heap.objs.size, [s1.heap.objs.size], _, _, _, rfl, I2.kept (t' := s1.toks) fun b o e => Heap.get?_push_of_some _ e, turn_dict a _ o kvs, ⟨es, ep, r.2.1, ?_⟩, fun b hb => ?_, q o⟩
  · rw [rel.length]
    exact ⟨_, Heap.get?_push_size _ rfl, rfl, rfl⟩
  · have e : b = s1.heap.objs.size := by simpa using hb
    subst e
    exact I2.fpOk (Nat.le_refl _) (I2.hok.fresh (Nat.le_refl _))
noncomputable def Dm (a : Addr) (D : Ends) : Ends := ⟨fun σ H => D.nx σ (melt a H), fun v H => D.rt v (melt a H), fun σ H => D.bk σ (melt a H), fun σ H => D.ct σ (melt a H)⟩
noncomputable def NoFrz (H : Hp) (a : Addr) : Prop := ∀ o u, H a ≠ some (.frz o u)
noncomputable def tForD (tl : TE) (g : TG) (tb : TS) : TS := fun D σ H => ∃ a, NoFrz H a ∧ tFor (iDict a tl) g tb (Dm a D) σ H
theorem ps_forD {iter : Expr} {body : List Stmt} {tl : TE} {g : TG} {tb : TS} {pos : Pos} (hp : PassesOwn (model X.prog X.w) X.A X.env X.xe) (hc : X.calm = true) (hi : PE X iter tl) (hg : PG X tg g) (hb : PSs X body tb)
    (hs : ∀ x, foldedSetIterable iter X.env x = pure x := by intro _; rfl) : PS X (.For tg iter body [] pos) (tForD tl g tb) := by
  intro pins s σ H D I h
  obtain ⟨a, nf, h⟩ := h
  have h0 : ∀ o u, X.H₀ a ≠ some (.frz o u) := fun o u e => nf _ _ (I.base.frzs a o u e)
  refine thn (ps_for hp hc (pi_dict a hi) hg hb hs pins s σ H (Dm a D) I h) fun f s' q => ?_
  cases f with
  | next => obtain ⟨σ', H', I', q⟩ := q; exact ⟨σ', _, I'.melt h0, q⟩
  | brk => obtain ⟨σ', H', I', q⟩ := q; exact ⟨σ', _, I'.melt h0, q⟩
  | cont => obtain ⟨σ', H', I', q⟩ := q; exact ⟨σ', _, I'.melt h0, q⟩
  | ret u => obtain ⟨v, σ', H', I', r, q⟩ := q; exact ⟨v, σ', _, I'.melt h0, r, q⟩
variable {scope : Scope} {tn names : List Str} {is : List Nat} {elt iter : Expr} {ifs : List Expr} {pos : Pos} {tl te : TE} {tc : Option TT} {g : TG}
noncomputable def tCompD (tl : TE) (te : TE) (tc : Option TT) (g : TG) (k : Nat) (is : List Nat) : TE := fun σ H Q => ∃ a, NoFrz H a ∧ tComp (iDict a tl) te tc g k is σ H fun v H' => Q v (melt a H')
theorem pe_compD (ck : CompOk X scope tn names is) (hc : X.calm = true) (hi : PE X iter tl)
    (hg : ∀ C s0 H0 ex, PG (cxComp X scope (capsOf X.env names) (tn ++ names) C s0 H0 ex) tg g) (he : ∀ C s0 H0 ex, PE (cxComp X scope (capsOf X.env names) (tn ++ names) C s0 H0 ex) elt te)
    (ht : ∀ C s0 H0 ex, PTs (cxComp X scope (capsOf X.env names) (tn ++ names) C s0 H0 ex) ifs tc) (hs : ∀ x, foldedSetIterable iter X.env x = pure x := by intro _; rfl) :
    PE X (.ListComp elt [⟨tg, iter, ifs, 0⟩] scope pos) (tCompD tl te tc g tn.length is) := by
  intro pins s σ H Q I h
  obtain ⟨a, nf, h⟩ := h
  have h0 : ∀ o u, X.H₀ a ≠ some (.frz o u) := fun o u e => nf _ _ (I.base.frzs a o u e)
  refine thn (pe_comp ck hc (pi_dict a hi) hg he ht hs pins s σ H _ I h) fun u s' ⟨v, H', I', r, q⟩ => ⟨v, _, I'.melt h0, r, q⟩
end
end L2
namespace L2
open PySem PySem.Spec PyProof.Rows
section
variable {X : Cx} {pins : List (Addr × Obj)} {σ : St} {H : Hp} {s : Shared} {tg : Expr}
theorem Inv.dr (I : Inv X pins σ H s) (d : Drawn) : Inv X pins σ H { s with drawn := d } := ⟨I.ok, I.os, I.bare, I.base, I.loc, I.cell, I.free, I.freeC, I.pin, I.hok, I.len⟩
noncomputable def Ite (K : PySem.W.Frag) (a : Addr) : It :=
  ⟨fun i H => ∃ xs x, SqL K H a xs ∧ xs[i]? = some x, fun i H v H' => ∃ T x, v = .ref T ∧ H T = none ∧ H' = upd H T (.tup [.int i, x]) ∧ ∀ xs, SqL K H a xs → xs[i]? = some x, fun i H => ∃ xs, SqL K H a xs ∧ xs.length ≤ i⟩
theorem turn_enum {P : Program} {w : World} {K : PySem.W.Frag} {elts : List Expr} {k1 : Nat} {tpos : Pos} (a e it : Addr) (hei : e ≠ it) :
    Turn P w K (.Tuple elts k1 tpos) (Ite K a) [e, it] e (fun i h => (∃ old, IsEnum h e it i old) ∧ h.IsListIter it a i) where
  mem := by simp
  obj := fun i h st b hb => by
    obtain ⟨⟨old, he⟩, o, e1, c, d⟩ := st
    rcases List.mem_cons.mp hb with rfl | hb
    · exact ⟨_, he, fun v z => nomatch z⟩
    · have hb : b = it := by simpa using hb
      subst hb
      exact ⟨o, e1, fun v z => by rw [d] at z; cases z⟩
  keep := fun i h h' ⟨⟨old, he⟩, st⟩ k => ⟨⟨old, k e (by simp) _ he⟩, st.at fun o q => k it (by simp) o q⟩
  item := by
    intro X hP hw hK hc i pins s σ H E I hf st hg
    subst hP hw hK
    obtain ⟨xs, x, hq, hx⟩ := hg
    obtain ⟨its, rv, p, hz⟩ := I.list hq
    obtain ⟨u, hu, ru⟩ := rv.get hx
    obtain ⟨⟨old, he⟩, hit⟩ := st
    obtain ⟨f0, f1, f2, f3, f4, f5⟩ := hf e (by simp)
    obtain ⟨g0, g1, g2, g3, g4, g5⟩ := hf it (by simp)
    refine wpAny_pyNext_enum_item he hit p.isList (by simpa using hu) hei fun h' ho hit' hT hsz hk => ?_
    refine ⟨_, rfl, wpAny_letOwnedTupleGo_enum (s := { s with heap := h', toks := s.toks + 1 }) ho fun h2 he2 sb => ?_⟩
    have hTn : H s.heap.objs.size = none := I.hok.fresh (Nat.le_refl _)
    have hTe : s.heap.objs.size ≠ e := Nat.ne_of_gt (Heap.lt_size he)
    have hTi : s.heap.objs.size ≠ it := by obtain ⟨_, q, _⟩ := hit; exact Nat.ne_of_gt (Heap.lt_size q)
    have k2 : ∀ b o, b ≠ e → b ≠ it → s.heap.get? b = some o → h2.get? b = some o := fun b o n1 n2 q => (sb.2 b n1).trans (hk b o n1 n2 q)
    -- first the iterators turn, then the tuple is tracked
    have I1 : Inv X pins σ H { s with heap := h2, toks := s.toks + 1 } := by
      refine I.step (g' := s.gens) (d' := s.drawn) (t' := s.toks + 1) (ch := [e, it]) (fun b hb => ?_) (fun b o _ _ hb q _ => k2 b o (fun z => hb (by simp [z])) (fun z => hb (by simp [z])) q) (fun b o _ _ hb q _ => ⟨o.slots, k2 b o (fun z => hb (by simp [z])) (fun z => hb (by simp [z])) q⟩)
        (fun b o _ _ q => q) (fun b o hb q => ⟨o, k2 b o (fun z => hb (by simp [z])) (fun z => hb (by simp [z])) q⟩) (fun _ _ q => q) (fun _ _ _ q => q) (fun _ ps q => ⟨#[], by simpa using q⟩) (fun m hm => ?_) ?_ I.bare
      · rcases List.mem_cons.mp hb with rfl | hb
        · exact ⟨f3, f1, f4, f5⟩
        · have hb : b = it := by simpa using hb
          subst hb
          exact ⟨g3, g1, g4, g5⟩
      · obtain ⟨o, es, ep, q, r⟩ := hm
        exact ⟨o, es, ep, k2 _ _ (Ne.symm f1) (Ne.symm g1) q, r⟩
      · intro b u q
        refine (I.hok b u q).stay (fun c v hc r => k2 c v ?_ ?_ r) (fun _ q => q) fun _ _ q => q
        · rintro rfl
          rcases hc with rfl | hc
          · rw [f0] at q; cases q
          · rw [f0] at hc; cases hc
        · rintro rfl
          rcases hc with rfl | hc
          · rw [g0] at q; cases q
          · rw [g0] at hc; cases hc
    have hT2 : h2.get? s.heap.objs.size = some { cls := .type "tuple", data := .seq #[.int i s.toks, u] } := (sb.2 _ hTe).trans hT
    have I2 : Inv X pins σ (upd H s.heap.objs.size (.tup [.int i, x])) { s with heap := h2, toks := s.toks + 1 } := by
      have nn : ∀ {b : Addr}, b < s.heap.objs.size → H b = none → upd H s.heap.objs.size (.tup [.int i, x]) b = none := fun {b} hb e => by rw [upd_ne (Nat.ne_of_lt hb)]; exact e
      have old : ∀ {b : Addr} {o : HO}, H b = some o → upd H s.heap.objs.size (.tup [.int i, x]) b = some o := fun {b o} e => by rw [upd_ne (ne_of_none e hTn)]; exact e
      refine ⟨I1.ok, I1.os, I1.bare, ⟨I1.base.keep, I1.base.slot, fun b o q n hx => nn ?_ (I1.base.free b o q n hx), I1.base.there, fun b ys q => old (I1.base.tups b ys q), fun b o v q => old (I1.base.frzs b o v q), fun b ps q => ?_⟩, I1.loc, I1.cell, nn I.lt I1.free, fun y c q => nn ?_ (I1.freeC y c q), fun p hp => ?_, fun b o q => ?_, I1.len⟩
      · exact Nat.lt_of_lt_of_le (Heap.lt_size q) I.sz
      · obtain ⟨more, z⟩ := I1.base.tbls b ps q
        exact ⟨more, old z⟩
      · obtain ⟨v, z⟩ := I.cell y c q
        exact z.lt
      · obtain ⟨z1, z2, z3⟩ := I1.pin p hp
        exact ⟨z1, nn (Heap.lt_size (I.pin p hp).1) z2, z3⟩
      · by_cases hb : b = s.heap.objs.size
        · subst hb
          rw [upd_same] at q
          cases q
          exact ⟨by rw [sizeLine_eq]; simp, [.int i s.toks, u], .cons ⟨_, rfl⟩ (.cons ru .nil), _, hT2, rfl, _, rfl⟩
        · rw [upd_ne hb] at q
          exact (I1.hok b o q).stay (fun _ _ _ z => z) (fun c z => old z) fun c ys z => old z
    exact ⟨.ref s.heap.objs.size, _, I2, rfl, ⟨s.heap.objs.size, x, rfl, hTn, rfl, fun ys hy => by rw [I.list_inj hy hq]; exact hx⟩, ⟨⟨u, by simpa using he2⟩, hit'.at fun o q => (sb.2 it (Ne.symm hei)).trans q⟩, fun b hb => by
      rcases List.mem_cons.mp hb with rfl | hb
      · rw [upd_ne (Ne.symm hTe)]; exact f0
      · have hb : b = it := by simpa using hb
        subst hb
        rw [upd_ne (Ne.symm hTi)]; exact g0⟩
  done := by
    intro X hP hw hK hc i pins s σ H E I hf st hg
    subst hP hw hK
    obtain ⟨xs, hq, hx⟩ := hg
    obtain ⟨its, rv, p, hz⟩ := I.list hq
    obtain ⟨⟨old, he⟩, hit⟩ := st
    obtain ⟨g0, g1, g2, g3, g4, g5⟩ := hf it (by simp)
    have hl := rv.length
    exact wpAny_pyNext_enum_end (I.ok.hd hc) he hit p.isList (by simp; omega) fun h' eb => ⟨rfl, I.turned (t' := s.toks) (fun b o hb e => eb b o hb e) g0 g1 g3 g4 g5⟩
  self := fun _ _ _ _ _ ⟨⟨_, he⟩, _⟩ h => wpAny_pyIter_enum he h
noncomputable def iEnum (K : PySem.W.Frag) (tl : TA) : TI := fun σ H R => tl σ H fun vs H1 => ∃ a, vs = [.ref a] ∧ (∃ xs, SqL K H1 a xs) ∧ R (Ite K a) H1
theorem pi_enum {l : Expr} {tl : TA} {elts : List Expr} {k1 : Nat} {tpos p pos : Pos} (hg : Gl X "enumerate") (hm : X.mg "enumerate" = none) (ha : PA X [l] tl) (hs : starEach [l] X.env = [(false, eval l X.env)] := by rfl) :
    PI X (.Tuple elts k1 tpos) (.Call (.Name "enumerate" p) [l] [] pos) (iEnum X.K tl) := by
  intro pins s σ H R I h
  refine Call_ (ld_blt I hg hm bt_enumerate (PyProof.Rows.callWith_type1 (thn (ha pos pins s σ H _ I h) fun us s1 ⟨vs, H1, I1, r1, q1⟩ => ?_) hs rfl))
  obtain ⟨a, e, ⟨xs, hq⟩, q⟩ := q1
  subst e
  cases r1 with
  | cons r rr =>
    cases rr
    cases r
    obtain ⟨its, rv, p, hz⟩ := I1.list hq
    refine call_enumerate_list p.isList fun h' he hit hsz kp => ?_
    refine wpAny_pyIter_enum he ?_
    have I2 : Inv X pins σ H1 { s1 with heap := h' } := I1.kept (t' := s1.toks) kp
    refine ⟨_, [s1.heap.objs.size + 1, s1.heap.objs.size], _, _, H1, rfl, I2, turn_enum a _ _ (Nat.ne_of_gt (Nat.lt_succ_self _)), ⟨⟨_, he⟩, hit⟩, fun b hb => ?_, q⟩
    rcases List.mem_cons.mp hb with rfl | hb
    · exact I1.fpOk (Nat.le_succ _) (I1.hok.fresh (Nat.le_succ _))
    · have hb : b = s1.heap.objs.size := by simpa using hb
      subst hb
      exact I1.fpOk (Nat.le_refl _) (I1.hok.fresh (Nat.le_refl _))
noncomputable def SetS (w : World) (a : Addr) (xs : List Str) : HO := .ext fun h => TxSet w h a xs
theorem vals_strs : ∀ {xs : List Str} {us : List Value}, Vals (xs.map V.str) us → StrsAre us xs
  | [], _, .nil => .nil
  | x :: xs, _, .cons r t => by
    obtain ⟨tk, rfl⟩ := r
    exact .cons x tk (vals_strs t)
theorem strs_vals : ∀ {us : List Value} {xs : List Str}, StrsAre us xs → Vals (xs.map V.str) us
  | _, _, .nil => .nil
  | _, _, .cons x t h => .cons ⟨t, rfl⟩ (strs_vals h)
noncomputable def rSetS (w : World) : List V → Hp → VK → Prop := fun vs H Q => ∃ (p : Addr) (xs : List Str), vs = [.ref p] ∧ H p = some (.lst (xs.map V.str)) ∧ xs.length ≤ 4000 ∧ ∀ (l : Addr) (ys : List Str), H l = none → ys.Nodup → (∀ z, z ∈ ys ↔ z ∈ xs) → Q (.ref l) (upd H l (SetS w l ys))
theorem call_setS (hc : X.calm = true) : CallR X (.type "set") (rSetS X.w) := by
  intro pins s σ H vs us Q I r h
  obtain ⟨p, xs, rfl, hp, hl, q⟩ := h
  obtain ⟨u, rfl, ru⟩ := r.one
  cases ru
  obtain ⟨z, its, n, rv, hlen, e⟩ := I.lstM hp
  have hst := vals_strs rv
  refine set_texts (items := its.toArray) (xs := xs) (I.ok.hd hc) ⟨_, e, rfl, n, rfl⟩ (fun i v hv => ?_) (by rw [List.size_toArray, ← hlen, List.length_map]) (by unfold scanBound; omega) fun h' tk ys ht hm kp => ?_
  · have hv : its[i]? = some v := by simpa using hv
    have hi : i < xs.length := by
      have := (List.getElem?_eq_some_iff.mp hv).1
      rw [← hlen, List.length_map] at this
      exact this
    obtain ⟨u, e1, r1⟩ := rv.get (i := i) (x := .str xs[i]) (by simp [hi])
    rw [hv] at e1
    cases e1
    obtain ⟨t, rfl⟩ := r1
    exact ⟨t, by simp [List.getD, hi]⟩
  · have hnd : ys.Nodup := by obtain ⟨_, _, _, _, _, _, nd, _⟩ := ht; exact nd
    have hex : ∃ o, h'.get? s.heap.objs.size = some o := by obtain ⟨es, ep, t, g, _⟩ := ht; exact ⟨_, g⟩
    refine ⟨.ref s.heap.objs.size, _, I.laid (o := SetS X.w s.heap.objs.size ys) (fun b o e => kp b o (Heap.lt_size e) e) (Nat.le_refl _) ⟨ht, hex, fun h1 h2 x k => x.at k⟩, rfl, q _ ys (I.hok.fresh (Nat.le_refl _)) hnd hm⟩
noncomputable def SortOf (w : World) (H : Hp) (p : Addr) (xs : List Str) : Prop := H p = some (SetS w p xs) ∨ H p = some (.lst (xs.map V.str)) ∨ ∃ kvs : List (Key × V), H p = some (.dK kvs) ∧ kvs.map (·.1) = xs.map Sum.inr
noncomputable def rSortS (w : World) : List V → Hp → VK → Prop := fun vs H Q => ∃ (p : Addr) (xs : List Str), vs = [.ref p] ∧ SortOf w H p xs ∧ xs.length < 64 ∧ ∀ (l : Addr) (ys : List Str), H l = none → ys.Perm xs → sortedS ys = true → Q (.ref l) (upd H l (.lst (ys.map V.str)))
theorem call_sortS (hc : X.calm = true) : CallR X (.builtin "sorted") (rSortS X.w) := by
  intro pins s σ H vs us Q I r h
  obtain ⟨p, xs, rfl, hp, hl, q⟩ := h
  obtain ⟨u, rfl, ru⟩ := r.one
  cases ru
  have fin : ∀ h' d tk L its ys n, s.heap.objs.size ≤ L → StrsAre its ys → ys.Perm xs → sortedS ys = true → h'.get? L = some (seqObj "list" its.toArray n) → (∀ b o, s.heap.get? b = some o → h'.get? b = some o) → EP X pins σ Q (.ref L) { s with heap := h', drawn := d, toks := tk } := fun h' d tk L its ys n hL hS hP hO g kp => by
    have I1 := (I.dr d).laid (h' := h') (a := L) (o := .lst (ys.map V.str)) (t' := tk) kp hL ⟨by
      have := hP.length_eq
      rw [List.length_map, sizeLine_eq]
      omega, its, n, strs_vals hS, g⟩
    exact ⟨.ref L, _, I1, rfl, q L ys (I.hok.fresh hL) hP hO⟩
  rcases hp with hp | hp | ⟨kvs, hp, hk⟩
  · exact sorted_tx (I.ok.hd hc) (show TxSet X.w s.heap p xs from (I.hok p _ hp).1) hl fin
  · obtain ⟨z, its, n, rv, hlen, e⟩ := I.lstM hp
    refine sorted_col hl (fun A' Q' hA k => collect_list (vs := its) ⟨_, e, rfl, n, rfl⟩ ?_ (by rw [← hlen]; exact z)) fin
    refine k its _ s.drawn s.toks ⟨xs, vals_strs rv, .refl _⟩ (fun b o q => ?_) ?_
    · have hb : b ≠ s.heap.objs.size := Nat.ne_of_lt (Heap.lt_size q)
      exact (Heap.get?_update_other _ _ (Ne.symm hb)).trans (Heap.get?_push_of_some _ q)
    · rw [Heap.size_update, size_push']
      exact Nat.le_succ _
  · obtain ⟨z, hd, vs', rel, dd⟩ := dk_of I.hok hp
    obtain ⟨ep, dd⟩ := dd.dictAt
    refine sorted_col hl (fun A' Q' hA k => collect_keys (hA.trans (I.ok.hd hc)) hd dd (by rw [← rel.length]; exact z) fun vs h' tk hn hv kp hge => ?_) fin
    refine k vs h' s.drawn tk ⟨xs, ?_, .refl _⟩ kp hge
    have hxl : xs.length = vs.length := by
      have := congrArg List.length hk
      rw [List.length_map, List.length_map] at this
      rw [hn, ← rel.length, this]
    have all : ∀ (i : Nat) (v : Value), vs[i]? = some v → ∃ x t, xs[i]? = some x ∧ v = .str x t := fun i v e => by
      obtain ⟨k', x', e1, e2⟩ := hv i v e
      have e3 : (vs'.map (·.1))[i]? = some k' := by rw [List.getElem?_map, e1]; rfl
      rw [← rel.keys, hk, List.getElem?_map] at e3
      cases e4 : xs[i]? with
      | none => rw [e4] at e3; cases e3
      | some y =>
        rw [e4] at e3
        have e5 : Sum.inr y = k' := Option.some.inj e3
        subst e5
        obtain ⟨t, rfl⟩ := key_rel e2
        exact ⟨y, t, rfl, rfl⟩
    have go : ∀ (us : List Value) (ys : List Str), ys.length = us.length → (∀ (i : Nat) (v : Value), us[i]? = some v → ∃ x t, ys[i]? = some x ∧ v = .str x t) → StrsAre us ys := by
      intro us
      induction us with
      | nil =>
        intro ys hl _
        have : ys = [] := List.length_eq_zero_iff.mp hl
        subst this
        exact .nil
      | cons u us ih =>
        intro ys hl ha
        cases ys with
        | nil => cases hl
        | cons y ys =>
          obtain ⟨x, t, e1, rfl⟩ := ha 0 u rfl
          cases e1
          exact .cons y t (ih ys (by simpa using hl) fun i v e => by simpa using ha (i + 1) v (by simpa using e))
    exact go vs xs hxl all
theorem Paired.at {α β : Type} {F : α → β → Prop} : ∀ {xs : List α} {ys : List β} {i : Nat} {x : α}, Paired F xs ys → xs[i]? = some x → ∃ y, ys[i]? = some y ∧ F x y
  | _, _, _, _, .nil, e => by simp at e
  | _, _, 0, _, .cons r _, e => by simp at e; subst e; exact ⟨_, rfl, r⟩
  | _, _, i + 1, x, .cons _ t, e => by
    obtain ⟨y, h1, h2⟩ := Paired.at (i := i) (x := x) t (by simpa using e)
    exact ⟨y, by simpa using h1, h2⟩
end
end L2
namespace L2
open PySem PySem.Spec PyProof.Rows
section
variable {X : Cx}
noncomputable def rSetDef : V → List V → Hp → VK → Prop := fun x vs H Q => ∃ (a : Addr) (kvs : List (Key × V)) (k : Key) (d : V), x = .ref a ∧ vs = [kV k, d] ∧ H a = some (.dK kvs) ∧ kvs.length ≤ 1000 ∧ (∀ v, valV kvs k = some v → Q v H) ∧ (valV kvs k = none → Q d (upd H a (.dK (kvs ++ [(k, d)]))))
theorem mt_setdef : MtR X "dict.setdefault" rSetDef := by
  intro pins s σ H x vs v us Q I rx rv h
  obtain ⟨a, kvs, k, d, rfl, rfl, ha, hl, h1, h2⟩ := h
  cases rx
  obtain ⟨u1, u2, rfl, r1, r2⟩ := Vals.two rv
  obtain ⟨z, hs, ws, rel, dd⟩ := dk_of I.hok ha
  have hrel := rel.val k
  refine call_setdef (kV_is r1) hs dd (by rw [← rel.length]; exact z) (fun w e => ?_) fun e h' dd' sb => ?_
  · rw [e] at hrel
    cases ev : valV kvs k with
    | none => rw [ev] at hrel; exact hrel.elim
    | some v =>
      rw [ev] at hrel
      exact ⟨v, H, I.tok _, hrel, h1 v ev⟩
  · rw [e] at hrel
    have ev : valV kvs k = none := by
      cases ev : valV kvs k with
      | none => rfl
      | some v => rw [ev] at hrel; exact hrel.elim
    have he : ∃ q, h'.get? a = some q := let ⟨q, _, _, hq, _⟩ := dd'; ⟨q, hq⟩
    refine ⟨d, _, d_write (t' := s.toks + 1) I (by rw [ha]; exact True.intro) sb he (dk_new ?_ hs (show KV (kvs ++ [(k, d)]) (ws ++ [(k, u2)]) from ?_) dd'), r2, h2 ev⟩
    · rw [List.length_append, List.length_singleton, sizeLine_eq]
      omega
    · have : ∀ {p : List (Key × V)} {q : List (Key × Value)}, KV p q → KV (p ++ [(k, d)]) (q ++ [(k, u2)]) := fun {p q} r => by
        induction r with
        | nil => exact .cons ⟨rfl, r2⟩ .nil
        | cons r _ ih => exact .cons r ih
      exact this rel
end
end L2
namespace L2
section
variable {α : Type} [DecidableEq α]
noncomputable abbrev RunD (α : Type) := α × α × Rat
noncomputable abbrev EntD (α : Type) := Rat × Option (Nat × α)
noncomputable abbrev AL (α β : Type) := List (α × β)
noncomputable def aget {β : Type} (l : AL α β) (k : α) : Option β := (l.find? fun kv => decide (kv.1 = k)).map (·.2)
noncomputable def aput {β : Type} (l : AL α β) (k : α) (v : β) : AL α β := if (l.any fun kv => decide (kv.1 = k)) then l.map (fun kv => if kv.1 = k then (kv.1, v) else kv) else l ++ [(k, v)]
theorem aget_mem {β : Type} {l : AL α β} {k : α} {v : β} (h : aget l k = some v) : (k, v) ∈ l := by
  unfold aget at h
  rw [Option.map_eq_some_iff] at h
  obtain ⟨kv, h1, h2⟩ := h
  have h3 := List.find?_some h1
  have h4 := List.mem_of_find?_eq_some h1
  simp at h3
  obtain ⟨a, b⟩ := kv
  simp at h2 h3
  subst h2 h3
  exact h4
theorem aget_none {β : Type} {l : AL α β} {k : α} (h : aget l k = none) : ∀ v, (k, v) ∉ l := by
  intro v hm
  unfold aget at h
  rw [Option.map_eq_none_iff, List.find?_eq_none] at h
  have := h _ hm
  simp at this
theorem aput_nd {β : Type} {l : AL α β} {k : α} {v : β} (nd : (l.map (·.1)).Nodup) : ((aput l k v).map (·.1)).Nodup := by
  unfold aput
  split
  · rw [List.map_map]
    have : ((fun x => x.1) ∘ fun (kv : α × β) => if kv.1 = k then (kv.1, v) else kv) = fun kv => kv.1 := by
      funext kv
      simp only [Function.comp]
      split <;> rfl
    rw [this]
    exact nd
  · rename_i e
    rw [List.map_append, List.nodup_append]
    refine ⟨nd, by simp, ?_⟩
    intro a ha b hb
    simp at hb
    subst hb
    rintro rfl
    apply e
    rw [List.mem_map] at ha
    obtain ⟨kv, h1, h2⟩ := ha
    rw [List.any_eq_true]
    exact ⟨kv, h1, by simp [h2]⟩
theorem aget_put {β : Type} (l : AL α β) (k j : α) (v : β) : aget (aput l k v) j = if j = k then some v else aget l j := by
  by_cases e : j = k
  · subst e
    rw [if_pos rfl]
    unfold aget aput
    split
    · rename_i h
      induction l with
      | nil => simp at h
      | cons x r ih =>
        rw [List.map_cons, List.find?_cons]
        by_cases hx : x.1 = j
        · simp [hx]
        · rw [if_neg hx]
          simp only [hx, decide_false]
          apply ih
          rw [List.any_cons] at h
          simpa [hx] using h
    · rename_i h
      induction l with
      | nil => simp
      | cons x r ih =>
        rw [List.any_cons] at h
        have hx : ¬ x.1 = j := fun z => h (by simp [z])
        rw [List.cons_append, List.find?_cons]
        simp only [hx, decide_false]
        exact ih (by simpa [hx] using h)
  · rw [if_neg e]
    unfold aget aput
    split
    · rename_i h
      clear h
      induction l with
      | nil => rfl
      | cons x r ih =>
        rw [List.map_cons, List.find?_cons, List.find?_cons]
        by_cases hx : x.1 = k
        · rw [if_pos hx]
          have : ¬ x.1 = j := fun z => e (z.symm.trans hx)
          simp only [this, decide_false]
          exact ih
        · rw [if_neg hx]
          by_cases hj : x.1 = j
          · simp [hj]
          · simp only [hj, decide_false]
            exact ih
    · rename_i h
      rw [List.find?_append]
      have : List.find? (fun kv => decide (kv.1 = j)) [(k, v)] = none := by
        simp [Ne.symm e]
      rw [this, Option.or_none]
noncomputable def Jn (r : RunD α) (q p : α) : Prop := (r.1 = q ∧ r.2.1 = p) ∨ (r.2.1 = q ∧ r.1 = p)
noncomputable def NotOut (tk : Nat → Option Rat) (k : Nat) (t : Rat) : Prop := ∀ u, tk k = some u → t ≤ u
variable (net : List (RunD α)) (push : α → Option Rat) (tk : Nat → Option Rat)
inductive Arr : α → Rat → Prop
  | push {p t} : push p = some t → Arr p t
  | run {q s p k r} : Arr q s → net[k]? = some r → Jn r q p → NotOut tk k (s + r.2.2) → Arr p (s + r.2.2)
structure Falls (m : α → Option Rat) : Prop where
  arr : ∀ p t, m p = some t → Arr net push tk p t
  le : ∀ p t, Arr net push tk p t → ∃ u, m p = some u ∧ u ≤ t
variable {net push tk}
end
end L2
namespace L2
section
variable {α : Type} [DecidableEq α] {net : List (RunD α)} {push : α → Option Rat} {tk : Nat → Option Rat} {F : AL α (EntD α)}
end
end L2
namespace L2
section
variable {κ : Type} [DecidableEq κ]
noncomputable def lstep (m : AL κ Rat) (x : κ × Rat) : AL κ Rat := match aget m x.1 with
  | none => aput m x.1 x.2
  | some r => if x.2 < r then aput m x.1 x.2 else m
noncomputable def lst (l : List (κ × Rat)) : AL κ Rat := l.foldl lstep []
end
end L2
namespace L2
end L2
namespace L2
open PySem PySem.Spec PyProof.Rows
section
variable {X : Cx} {a b : Expr} {ta tb td ty tv : TE} {pos : Pos} {rest : List Expr} {σ : St} {H H' : Hp} {Q : VK} {D : Ends} {K : PySem.W.Frag} {w : World} {v x : V}
theorem r_dnew (k : ∀ p, H p = none → Q (.ref p) (upd H p (.dK []))) : tDNewK σ H Q := k
noncomputable def dG (x y : V) (H : Hp) (Q : VK) : Prop := ∃ a v, x = .ref a ∧ DGet H a y (some v) ∧ Q v H
theorem r_dget (k : td σ H fun x H1 => ty σ H1 fun y H2 => dG x y H2 Q) : tDGet td ty σ H Q := k
theorem r_dGs {p : Addr} {kvs : List (Key × V)} {s : Str} (h : Rd H p (.dK kvs)) (e : valV kvs (Sum.inr s) = some v) (k : Q v H) : dG (.ref p) (.str s) H Q := ⟨p, v, rfl, .inl ⟨kvs, Sum.inr s, h, rfl, e.symm⟩, k⟩
theorem r_dGk {p : Addr} {kvs : List (Key × V)} {c : Key} (h : Rd H p (.dK kvs)) (e : valV kvs c = some v) (k : Q v H) : dG (.ref p) (kV c) H Q := ⟨p, v, rfl, .inl ⟨kvs, c, h, rfl, e.symm⟩, k⟩
noncomputable def dP (D : Ends) (σ : St) (v x y : V) (H : Hp) : Prop := ∃ a H4, x = .ref a ∧ DPut H a y v H4 ∧ D.nx σ H4
theorem r_dput (k : tv σ H fun v H1 => td σ H1 fun x H2 => ty σ H2 fun y H3 => dP D σ v x y H3) : sDPut td ty tv D σ H := k
theorem r_dPk {p : Addr} {kvs : List (Key × V)} {c : Key} (h : H p = some (.dK kvs)) (hl : kvs.length ≤ 1000) (k : D.nx σ (upd H p (.dK (putK kvs c v)))) : dP D σ v (.ref p) (kV c) H := ⟨p, _, rfl, DPut.k h (small1000 hl), k⟩
theorem r_dPs {p : Addr} {kvs : List (Key × V)} {s : Str} (h : H p = some (.dK kvs)) (hl : kvs.length ≤ 1000) (k : D.nx σ (upd H p (.dK (putK kvs (Sum.inr s) v)))) : dP D σ v (.ref p) (.str s) H := r_dPk (c := Sum.inr s) h hl k
noncomputable def dG2 (ty tx : TE) (σ : St) (Q : VK) (x : V) (H1 : Hp) : Prop := ∃ a, x = .ref a ∧ IsD H1 a ∧ ty σ H1 fun y H2 => tx σ H2 fun z H3 => ∃ o, DGet H3 a y o ∧ Q (o.getD z) H3
theorem r_dget2 {tx : TE} (k : td σ H (dG2 ty tx σ Q)) : tDGet2 td ty tx σ H Q := k
theorem r_forD {g : TG} {tl : TE} {tb : TS} (a : Addr) (nf : NoFrz H a) (k : tl σ H fun x H1 => x = .ref a ∧ ∃ kvs, H1 a = some (.dK kvs) ∧ ∀ o, forK g tb (Dm a D) σ (Itd a o kvs) (upd H1 a (.frz o (.dK kvs)))) : tForD tl g tb D σ H := ⟨a, nf, k⟩
theorem r_forDk {a : Addr} {o : Obj} {kvs : List (Key × V)} {g : TG} {tb : TS} {D : Ends} (Pv : Nat → St → Hp → Prop) (h0 : Pv 0 σ H) (hl : ∀ i σ H, i ≤ kvs.length → Pv i σ H → H a = some (.frz o (.dK kvs)))
    (hs : ∀ i k v σ H, kvs[i]? = some (k, v) → Pv i σ H → g (kV k) σ H fun σ2 H2 => tb ⟨Pv (i + 1), D.rt, D.nx, Pv (i + 1)⟩ σ2 H2) (hd : ∀ σ H, Pv kvs.length σ H → D.nx σ H) : forK g tb D σ (Itd a o kvs) H := by
  refine ⟨fun i m σ H => m = kvs.length - i ∧ i ≤ kvs.length ∧ Pv i σ H, ⟨_, rfl, Nat.zero_le _, h0⟩, ?_⟩
  rintro i m σ H ⟨rfl, hi, p⟩
  by_cases hlt : i < kvs.length
  · refine .inr ⟨⟨hl i σ H hi p, hlt⟩, Pv (i + 1), fun σ' H' q => ⟨kvs.length - (i + 1), by omega, rfl, hlt, q⟩, fun x H' y => ?_⟩
    obtain ⟨rfl, k, v, e, rfl⟩ := y
    exact hs i k v σ _ e p
  · have : i = kvs.length := by omega
    subst this
    exact .inl ⟨⟨hl _ σ H (Nat.le_refl _) p, Nat.le_refl _⟩, hd σ H p⟩
theorem r_forE {a : Addr} {xs : List V} {g : TG} {tb : TS} (Pv : Nat → St → Hp → Prop) (h0 : Pv 0 σ H) (hl : ∀ i σ H, i ≤ xs.length → Pv i σ H → SqL K H a xs)
    (hs : ∀ i x T σ H, xs[i]? = some x → H T = none → Pv i σ H → g (.ref T) σ (upd H T (.tup [.int i, x])) fun σ2 H2 => tb ⟨Pv (i + 1), D.rt, D.nx, Pv (i + 1)⟩ σ2 H2) (hd : ∀ σ H, Pv xs.length σ H → D.nx σ H) : forK g tb D σ (Ite K a) H := by
  refine ⟨fun i m σ H => m = xs.length - i ∧ i ≤ xs.length ∧ Pv i σ H, ⟨_, rfl, Nat.zero_le _, h0⟩, ?_⟩
  rintro i m σ H ⟨rfl, hi, p⟩
  have q := hl i σ H hi p
  by_cases hlt : i < xs.length
  · refine .inr ⟨⟨xs, xs[i], q, by simp [hlt]⟩, Pv (i + 1), fun σ' H' q => ⟨xs.length - (i + 1), by omega, rfl, hlt, q⟩, fun x H' y => ?_⟩
    obtain ⟨T, x', rfl, hT, rfl, e⟩ := y
    exact hs i x' T σ H (e xs q) hT p
  · have : i = xs.length := by omega
    subst this
    exact .inl ⟨⟨xs, q, Nat.le_refl _⟩, hd σ H p⟩
theorem r_iEnum {tl : TA} {R : It → Hp → Prop} (k : tl σ H fun vs H1 => ∃ a, vs = [.ref a] ∧ (∃ xs, SqL K H1 a xs) ∧ R (Ite K a) H1) : iEnum K tl σ H R := k
theorem e_K {a : Addr} {xs : List V} {R : It → Hp → Prop} (h : H a = some (.lst xs)) (k : R (Ite K a) H) : ∃ a', [V.ref a] = [.ref a'] ∧ (∃ xs, SqL K H a' xs) ∧ R (Ite K a') H := ⟨a, rfl, ⟨xs, SqL.of h⟩, k⟩
theorem r_gtup2 {p : Addr} {x y : V} {t : TGs} {R : St → Hp → Prop} (h : H p = some (.tup [x, y])) (k : t [x, y] σ H R) : gTup K 2 t (.ref p) σ H R := ⟨p, _, rfl, SqT.of h, rfl, k⟩
theorem r_gtup4 {p : Addr} {x y z u : V} {t : TGs} {R : St → Hp → Prop} (h : H p = some (.tup [x, y, z, u])) (k : t [x, y, z, u] σ H R) : gTup K 4 t (.ref p) σ H R := ⟨p, _, rfl, SqT.of h, rfl, k⟩
theorem r_gnil {R : St → Hp → Prop} (k : R σ H) : gNil [] σ H R := ⟨rfl, k⟩
theorem r_gcons {t : TG} {u : TGs} {r : List V} {R : St → Hp → Prop} (k : t v σ H fun σ' H' => u r σ' H' R) : gCons t u (v :: r) σ H R := ⟨v, r, rfl, k⟩
end
noncomputable def TK (H H' : Hp) : Prop := ∀ p xs, H p = some (.tup xs) → H' p = some (.tup xs)
theorem TK.refl (H : Hp) : TK H H := fun _ _ h => h
theorem TK.trans {H H1 H2 : Hp} (a : TK H H1) (b : TK H1 H2) : TK H H2 := fun p xs h => b p xs (a p xs h)
theorem Same.tk {H H' : Hp} (s : Same H H') : TK H H' := fun p xs h => s _ _ h
theorem TK.lst {H : Hp} {q : Addr} {o : HO} {ys : List V} (h : H q = some (.lst ys)) : TK H (upd H q o) := fun p xs e => by rw [upd_ne (ne_of e h (by intro z; cases z))]; exact e
theorem TK.dic {H : Hp} {q : Addr} {o : HO} {ys : List (Key × V)} (h : H q = some (.dK ys)) : TK H (upd H q o) := fun p xs e => by rw [upd_ne (ne_of e h (by intro z; cases z))]; exact e
noncomputable def FrQ (H : Hp) (v : V) (q : Rat) : Prop := ∃ p, v = .ref p ∧ H p = some (.tup [.int q.num, .int q.den])
theorem FrQ.tk {H H' : Hp} {v : V} {q : Rat} (h : FrQ H v q) (t : TK H H') : FrQ H' v q := let ⟨p, e, h⟩ := h; ⟨p, e, t _ _ h⟩
section
variable {α β : Type} {F G : α → β → Prop}
theorem Pd.imp : ∀ {l : List α} {m : List β}, Paired F l m → (∀ a b, F a b → G a b) → Paired G l m
  | _, _, .nil, _ => .nil
  | _, _, .cons r t, f => .cons (f _ _ r) (Pd.imp t f)
theorem Pd.snoc : ∀ {l : List α} {m : List β} {a : α} {b : β}, Paired F l m → F a b → Paired F (l ++ [a]) (m ++ [b])
  | _, _, _, _, .nil, r => .cons r .nil
  | _, _, _, _, .cons q t, r => .cons q (Pd.snoc t r)
theorem Pd.get : ∀ {l : List α} {m : List β} {i : Nat} {b : β}, Paired F l m → m[i]? = some b → ∃ a, l[i]? = some a ∧ F a b
  | _, _, _, _, .nil, e => by simp at e
  | _, _, 0, _, .cons r _, e => by simp at e; subst e; exact ⟨_, rfl, r⟩
  | _, _, i + 1, b, .cons _ t, e => by
    obtain ⟨y, h1, h2⟩ := Pd.get (i := i) (b := b) t (by simpa using e)
    exact ⟨y, by simpa using h1, h2⟩
end
noncomputable def LQ {β : Type} (R : Hp → V → β → Prop) (H : Hp) (l : Addr) (ds : List β) : Prop := ∃ vs, H l = some (.lst vs) ∧ Paired (R H) vs ds
noncomputable def KQ {β : Type} (R : Hp → V → β → Prop) (H : Hp) (kvs : List (Key × V)) (m : List (Key × β)) : Prop := Paired (fun kv ab => kv.1 = ab.1 ∧ R H kv.2 ab.2) kvs m
noncomputable def DQ {β : Type} (R : Hp → V → β → Prop) (H : Hp) (d : Addr) (m : List (Key × β)) : Prop := ∃ kvs, H d = some (.dK kvs) ∧ KQ R H kvs m
section
variable {β : Type} {R : Hp → V → β → Prop} {H H' : Hp} {l d : Addr} {ds : List β} {m : List (Key × β)} {kvs : List (Key × V)}
theorem LQ.same (h : LQ R H l ds) (hR : ∀ v b, R H v b → R H' v b) (s : Same H H') : LQ R H' l ds := let ⟨vs, a, b⟩ := h; ⟨vs, s _ _ a, Pd.imp b hR⟩
theorem KQ.imp {R' : Hp → V → β → Prop} (h : KQ R H kvs m) (hR : ∀ v b, R H v b → R' H' v b) : KQ R' H' kvs m := Pd.imp h fun _ _ q => ⟨q.1, hR _ _ q.2⟩
theorem KQ.keys : ∀ {kvs : List (Key × V)} {m : List (Key × β)}, KQ R H kvs m → kvs.map (·.1) = m.map (·.1)
  | _, _, .nil => rfl
  | _, _, .cons r t => by rw [List.map_cons, List.map_cons, r.1, KQ.keys t]
theorem KQ.len (h : KQ R H kvs m) : kvs.length = m.length := Paired.length h
theorem KQ.val : ∀ {kvs : List (Key × V)} {m : List (Key × β)} {k : Key}, KQ R H kvs m → (valV kvs k = none ∧ aget m k = none) ∨ ∃ v b, valV kvs k = some v ∧ aget m k = some b ∧ R H v b
  | _, _, _, .nil => .inl ⟨rfl, rfl⟩
  | _, _, k, .cons (a := p) (b := q) (l₁ := as) (l₂ := bs) r t => by
    by_cases e : p.1 = k
    · refine .inr ⟨p.2, q.2, valV_pos e, ?_, r.2⟩
      have e' : q.1 = k := r.1 ▸ e
      simp [aget, List.find?_cons, e']
    · have e' : ¬ q.1 = k := fun z => e (r.1.trans z)
      have h1 : valV (p :: as) k = valV as k := valV_neg e
      rw [h1]
      have h2 : aget (q :: bs) k = aget bs k := by simp [aget, List.find?_cons, e']
      rw [h2]
      exact KQ.val t
theorem KQ.repl {k : Key} {v : V} {b : β} (hv : R H v b) : ∀ {kvs : List (Key × V)} {m : List (Key × β)}, KQ R H kvs m → KQ R H (kvs.map fun kv => if kv.1 = k then (kv.1, v) else kv) (m.map fun kv => if kv.1 = k then (kv.1, b) else kv)
  | _, _, .nil => .nil
  | _, _, .cons (a := p) (b := q) r t => by
    refine .cons ?_ (KQ.repl hv t)
    dsimp only
    by_cases e : p.1 = k
    · rw [if_pos e, if_pos (r.1 ▸ e)]
      exact ⟨r.1, hv⟩
    · rw [if_neg e, if_neg (fun z => e (r.1.trans z))]
      exact r
theorem KQ.any {k : Key} : ∀ {kvs : List (Key × V)} {m : List (Key × β)}, KQ R H kvs m → (kvs.any fun kv => decide (kv.1 = k)) = m.any fun kv => decide (kv.1 = k)
  | _, _, .nil => rfl
  | _, _, .cons r t => by rw [List.any_cons, List.any_cons, r.1, KQ.any t]
theorem KQ.put {k : Key} {v : V} {b : β} (h : KQ R H kvs m) (hv : R H v b) : KQ R H (putK kvs k v) (aput m k b) := by
  unfold putK aput
  rw [KQ.any h]
  split
  · exact KQ.repl hv h
  · exact Pd.snoc h ⟨rfl, hv⟩
end
theorem r_nxD {D : Ends} {σ : St} {H : Hp} (k : D.nx σ H) : D.nx σ H := k
theorem r_rtD {D : Ends} {v : V} {H : Hp} (k : D.rt v H) : D.rt v H := k
theorem r_dmN {a : Addr} {D : Ends} {σ : St} {H : Hp} (k : D.nx σ (melt a H)) : (Dm a D).nx σ H := k
theorem Room.u1 {k : Nat} {A : Around} (r : Room k A) : A.units + 1 < cLine := by have := r.units; omega
section
variable {X : Cx} {σ : St} {H H' : Hp} {Q : VK} {K : PySem.W.Frag} {v x y : V} {w : World}
theorem upd_not {q b : Addr} {o u : HO} (n : b ≠ q) (h : H b = some u) : upd H q o b = some u := by rw [upd_ne n]; exact h
noncomputable def rIsN : R2 := fun x y H Q => y = .non ∧ Q (.bl (decide (x = .non))) H
noncomputable def rNotN : R2 := fun x y H Q => y = .non ∧ Q (.bl (!decide (x = .non))) H
theorem op_isN2 : OpR X (compareOp .Is) rIsN := op_isN
theorem op_notN2 : OpR X (compareOp .IsNot) rNotN := op_notN
theorem r_isNn (k : Q (.bl true) H) : rIsN .non .non H Q := ⟨rfl, k⟩
theorem r_isNs {s : Str} (k : Q (.bl false) H) : rIsN (.str s) .non H Q := ⟨rfl, k⟩
theorem r_noNn (k : Q (.bl false) H) : rNotN .non .non H Q := ⟨rfl, k⟩
theorem r_noNs {s : Str} (k : Q (.bl true) H) : rNotN (.str s) .non H Q := ⟨rfl, k⟩
noncomputable def bmK (K : PySem.W.Frag) (T : String) (r : V → List V → Hp → VK → Prop) (t : TA) (σ : St) (Q : VK) : VK := fun x H1 => tyV K T x H1 ∧ t σ H1 fun xs H2 => r x xs H2 Q
theorem r_bm {T : String} {r : V → List V → Hp → VK → Prop} {to : TE} {t : TA} (k : to σ H (bmK K T r t σ Q)) : tBM K T r to t σ H Q := k
theorem r_bmL {r : V → List V → Hp → VK → Prop} {t : TA} {l : Addr} {xs : List V} (h : H l = some (.lst xs)) (k : t σ H fun vs H2 => r (.ref l) vs H2 Q) : bmK K "list" r t σ Q (.ref l) H := ⟨.inl ⟨rfl, xs, SqL.of h⟩, k⟩
theorem r_bmD {r : V → List V → Hp → VK → Prop} {t : TA} {l : Addr} {xs : List (Key × V)} (h : H l = some (.dK xs)) (k : t σ H fun vs H2 => r (.ref l) vs H2 Q) : bmK K "dict" r t σ Q (.ref l) H := ⟨.inr (.inr (.inl ⟨rfl, .inl ⟨xs, h⟩⟩)), k⟩
theorem r_bmS {r : V → List V → Hp → VK → Prop} {t : TA} {s : Str} (k : t σ H fun vs H2 => r (.str s) vs H2 Q) : bmK K "str" r t σ Q (.str s) H := ⟨rfl, k⟩
theorem r_app {l : Addr} {xs : List V} (h : H l = some (.lst xs)) (hl : xs.length ≤ 1000) (k : Q .non (upd H l (.lst (xs ++ [y])))) : rAppend (.ref l) [y] H Q := ⟨l, xs, y, rfl, rfl, h, small1000 hl, k⟩
theorem r_ext {l b : Addr} {xs zs : List V} (h : H l = some (.lst xs)) (h2 : H b = some (.lst zs)) (hl : xs.length + zs.length ≤ 1000) (k : Q .non (upd H l (.lst (xs ++ zs)))) : rExtend (.ref l) [.ref b] H Q := ⟨l, b, xs, zs, rfl, rfl, h, h2, le_line hl, k⟩
theorem r_setdef {a : Addr} {kvs : List (Key × V)} {c : Key} (h : H a = some (.dK kvs)) (hl : kvs.length ≤ 1000) (k1 : ∀ u, valV kvs c = some u → Q u H) (k2 : valV kvs c = none → Q v (upd H a (.dK (kvs ++ [(c, v)])))) : rSetDef (.ref a) [kV c, v] H Q := ⟨a, kvs, c, v, rfl, rfl, h, hl, k1, k2⟩
theorem r_compD {tl te : TE} {o : Option TT} {g : TG} {k : Nat} {is : List Nat} (a : Addr) (nf : NoFrz H a) (h : tl σ H fun x H1 => x = .ref a ∧ ∃ kvs, H1 a = some (.dK kvs) ∧ ∀ o', compK te o g (List.replicate k none) (capV σ is) (fun v H' => Q v (melt a H')) (Itd a o' kvs) (upd H1 a (.frz o' (.dK kvs)))) : tCompD tl te o g k is σ H Q := ⟨a, nf, h⟩
theorem NoFrz.dK {a : Addr} {kvs : List (Key × V)} (h : H a = some (.dK kvs)) : NoFrz H a := fun o u e => by rw [h] at e; cases e
end
end L2
namespace L2
open PySem PySem.Spec PyProof.Rows
theorem nd_len {α : Type} [DecidableEq α] : ∀ {l m : List α}, l.Nodup → (∀ x ∈ l, x ∈ m) → l.length ≤ m.length
  | [], _, _, _ => Nat.zero_le _
  | a :: l, m, nd, h => by
    rw [List.nodup_cons] at nd
    have ha := h a (by simp)
    have := nd_len (l := l) (m := m.erase a) nd.2 fun x hx => by
      have hne : x ≠ a := fun z => nd.1 (by rw [← z]; exact hx)
      exact (List.mem_erase_of_ne hne).mpr (h x (by simp [hx]))
    have h2 := List.length_erase_of_mem ha
    have h3 : 0 < m.length := List.length_pos_of_mem ha
    rw [List.length_cons]
    omega
theorem aput_none {β : Type} {m : AL Key β} {k : Key} {v : β} (h : k ∉ m.map (·.1)) : aput m k v = m ++ [(k, v)] := by
  unfold aput
  rw [if_neg]
  intro z
  obtain ⟨x, hx, e⟩ := List.any_eq_true.mp z
  exact h (List.mem_map.mpr ⟨x, hx, of_decide_eq_true e⟩)
section
variable {te : TE} {Q : VK} {H : Hp} {caps : St}
end
noncomputable def Kp2 (a b : Addr) (H H' : Hp) : Prop := ∀ c o, c ≠ a → c ≠ b → H c = some o → H' c = some o
theorem LQ.sm {β : Type} {R : Hp → V → β → Prop} {H H' : Hp} {l : Addr} {ds : List β} (h : LQ R H l ds) (hR : ∀ {H H' v b}, R H v b → TK H H' → R H' v b) (s : Same H H') : LQ R H' l ds := h.same (fun v b q => hR q s.tk) s
theorem DQ.sm {β : Type} {R : Hp → V → β → Prop} {H H' : Hp} {l : Addr} {ds : List (Key × β)} (h : DQ R H l ds) (hR : ∀ {H H' v b}, R H v b → TK H H' → R H' v b) (s : Same H H') : DQ R H' l ds := let ⟨k, a, b⟩ := h; ⟨k, s _ _ a, b.imp fun v b q => hR q s.tk⟩
section
variable {σ : St} {H : Hp} {Q : VK} {K : PySem.W.Frag}
end
theorem aget_nokey {β : Type} {m : AL Key β} {k : Key} (h : aget m k = none) : k ∉ m.map (·.1) := fun z => by
  obtain ⟨y, hy, rfl⟩ := List.mem_map.mp z
  exact aget_none h y.2 hy
theorem ix_LTc {X : Cx} {scope : Scope} {caps : List (Str × Addr)} {N : List Str} {C : Addr} {s0 : Shared} {H0 : Hp} {ex : List Addr} : IxR (cxComp X scope caps N C s0 H0 ex) (rIxLT X.K) := ix_LT
noncomputable abbrev TRun := Str × Str × Rat
noncomputable def kn (n : List TRun) : List (RunD Key) := n.map fun r => (Sum.inr r.1, Sum.inr r.2.1, r.2.2)
noncomputable def names (n : List TRun) : List Str := n.map (·.1) ++ n.map (·.2.1)
theorem low_rat {t b : Int} (hb : b ≠ 0) : (Rat.divInt t b).num = lowT t b ∧ ((Rat.divInt t b).den : Int) = lowB t b := rat_of hb (lowB_pos hb) (low_cop hb) (low_worth hb)
theorem FrQ.low {H : Hp} {t b : Int} {p : Addr} (hb : b ≠ 0) (h : H p = some (.tup [.int (lowT t b), .int (lowB t b)])) : FrQ H (.ref p) (Rat.divInt t b) := ⟨p, rfl, by rw [h, (low_rat hb).1, (low_rat hb).2]⟩
theorem low_pos {t b : Int} (ht : 0 < t) (hb : 0 < b) : 0 < Rat.divInt t b := by
  rw [Rat.lt_iff, (low_rat (t := t) (b := b) (by omega)).1]
  show (0 : Int) * _ < lowT t b * 1
  rw [Int.zero_mul, Int.mul_one]
  have e := low_worth (t := t) (b := b) (by omega)
  have hp := lowB_pos (t := t) (b := b) (by omega)
  have : 0 < lowT t b * b := by rw [e]; exact Int.mul_pos ht hp
  exact Int.pos_of_mul_pos_left this hb
noncomputable abbrev abc : Str := Str.ofString "abcdefghijklmnopqrstuvwxyz"
theorem abc_len : abc.length = 26 := by decide +kernel
theorem abc_at : ∀ j : Nat, j < 26 → atI abc.cps.toList (j : Int) = some (97 + j) := by decide +kernel
section
variable {σ : St} {H : Hp} {Q : VK} {K : PySem.W.Frag}
theorem r_ixS {z : Str} {i : Int} {c : Nat} (hz : z.length ≤ 100000) (e : atI z.cps.toList i = some c) (k : Q (.str ⟨#[c]⟩) H) : rIxLT K (.str z) (.int i) H Q := .inr (.inr ⟨z, i, c, rfl, rfl, by rw [sizeLine_eq]; omega, e, k⟩)
theorem r_addS {a b : Str} (h : a.length + b.length ≤ 100000) (k : Q (.str (a ++ b)) H) : rAddA K (.str a) (.str b) H Q := .inr (.inr (.inr ⟨a, b, rfl, rfl, by rw [sizeLine_eq]; omega, k⟩))
end
theorem den_strsL {H : Hp} : ∀ zs : List Str, DenL H (zs.map Dt.str) (zs.map V.str)
  | [] => rfl
  | z :: r => ⟨_, _, rfl, rfl, den_strsL r⟩
theorem den_strs {H : Hp} {p : Addr} {zs : List Str} (h : H p = some (.lst (zs.map V.str))) : Den H (.lst (zs.map Dt.str)) (.ref p) := ⟨p, _, rfl, h, den_strsL zs⟩
theorem dep_strs : ∀ zs : List Str, depL (zs.map Dt.str) ≤ 50
  | [] => by decide
  | z :: r => by
    show max 0 (depL (r.map Dt.str)) ≤ 50
    have := dep_strs r
    omega
theorem deq_strs (zs : List Str) : deqL (zs.map Dt.str) (zs.map Dt.str) = true := DenL.same_eq (H := fun _ => none) _ _ (den_strsL zs) (den_strsL zs)
theorem kit_dict_dict {K : PySem.W.Frag} : PySem.W.kitOne K (.type "dict") (.type "dict") = some true := by first | rfl | with_unfolding_all rfl | decide
theorem Kp.sm {p : Addr} {H H1 H2 : Hp} (k : Kp p H1 H2) (s : Same H H1) (hp : H p = none) : Same H H2 := fun b o h => k _ _ (ne_of_none h hp) (s _ _ h)
noncomputable def dFr (q : Rat) : Dt := .tup [.int q.num, .int q.den]
noncomputable abbrev sA : Str := Str.ofString "a"
noncomputable abbrev sB : Str := Str.ofString "b"
theorem lowT_pos {t b : Int} (ht : 0 < t) (hb : 0 < b) : 0 < lowT t b := by
  have e := low_worth (t := t) (b := b) (by omega)
  have hp := lowB_pos (t := t) (b := b) (by omega)
  have : 0 < lowT t b * b := by rw [e]; exact Int.mul_pos ht hp
  exact Int.pos_of_mul_pos_left this hb
end L2
namespace L2
open PySem PySem.Spec PyProof.Rows
section
variable {X : Cx}
noncomputable def rSplit : V → List V → Hp → VK → Prop := fun x vs H Q => ∃ z y : Str, x = .str z ∧ vs = [.str y] ∧ (y.length == 0) = false ∧ z.length ≤ 100000 ∧ ∀ l, H l = none → Q (.ref l) (upd H l (.lst ((Txt.split z y).map V.str)))
theorem texts_vals : ∀ (l : List (Str × Tok)), Vals ((l.map (·.1)).map V.str) (strValues l)
  | [] => .nil
  | p :: r => .cons ⟨p.2, rfl⟩ (texts_vals r)
theorem mt_split : MtR X "str.split" rSplit := by
  intro pins s σ H x vs v us Q I rx rv h
  obtain ⟨z, y, rfl, rfl, hy, hz, q⟩ := h
  obtain ⟨t, rfl⟩ := rx
  obtain ⟨u, rfl, ru⟩ := rv.one
  obtain ⟨t', rfl⟩ := ru
  have hn : (Builtin.Str.partsBetween z (Builtin.Str.occurrences z y 0 z.length (z.length + 1)) y.length).length ≤ z.length + 2 := by
    have := StrLaws.occ_length_le z y 0 z.length (z.length + 1)
    rw [length_partsBetween]
    omega
  have fin : ∀ (l : List (Str × Tok)) (k : Nat), l.map (·.1) = Txt.split z y → l.length ≤ 200000 → EP X pins σ Q (.ref s.heap.objs.size) { s with heap := s.heap.push { cls := .type "list", data := .seq (strValues l).toArray }, toks := k } := fun l k e hl => by
    refine ⟨.ref s.heap.objs.size, _, I.laid (t' := k) (a := s.heap.objs.size) (o := .lst ((Txt.split z y).map V.str)) (fun b o g => Heap.get?_push_of_some _ g) (Nat.le_refl _) ⟨?_, _, 0, ?_, Heap.get?_push_size _ rfl⟩, rfl, q _ (I.hok.fresh (Nat.le_refl _))⟩
    · rw [← e, List.length_map, List.length_map, sizeLine_eq]
      omega
    · rw [← e]
      exact texts_vals l
  have sz : z.length ≤ sizeLine := by rw [sizeLine_eq]; omega
  cases h1 : (decide (z.length < y.length) || decide (Builtin.Str.strKind z < Builtin.Str.strKind y))
  · cases hf : (Builtin.Str.occurrences z y 0 z.length (z.length + 1)).isEmpty
    · refine call_meets F.slot_str_split (typeIs_str _ _ _) F.entry_str_split (F.args_str_split_2 _ _) (meets_str_split_sep z y t t' h1 hy hf sz (by rw [sizeLine_eq]; omega)) ?_
      show wants _ _ _ { s with toks := _, heap := s.heap.push { cls := .type "list", data := .seq (strsFrom s.toks (Builtin.Str.partsBetween z (Builtin.Str.occurrences z y 0 z.length (z.length + 1)) y.length)).toArray } }
      rw [strsFrom_eq]
      have e := numbered_texts s.toks (Builtin.Str.partsBetween z (Builtin.Str.occurrences z y 0 z.length (z.length + 1)) y.length)
      have e2 := congrArg List.length e
      rw [List.length_map] at e2
      exact fin _ _ (e.trans ((if_neg (ne_true_of_eq_false h1)).trans (if_neg (ne_true_of_eq_false hf))).symm) (by omega)
    · refine call_meets F.slot_str_split (typeIs_str _ _ _) F.entry_str_split (F.args_str_split_2 _ _) (meets_str_split_not_found z y t t' h1 hy hf) ?_
      exact fin [(z, t)] s.toks ((if_neg (ne_true_of_eq_false h1)).trans (if_pos hf)).symm (by simp)
  · refine call_meets F.slot_str_split (typeIs_str _ _ _) F.entry_str_split (F.args_str_split_2 _ _) (meets_str_split_cannot_occur z y t t' h1) ?_
    exact fin [(z, t)] s.toks (if_pos h1).symm (by simp)
end
end L2
namespace L2
open PySem PySem.Spec PyProof.Rows
noncomputable def Its (z : Str) : It := ⟨fun i _ => i < z.cps.size, fun i H x H' => H' = H ∧ ∃ c, z.cps[i]? = some c ∧ x = .str ⟨#[c]⟩, fun i _ => z.cps.size ≤ i⟩
theorem turn_signs {P : Program} {w : World} {K : PySem.W.Frag} {tg : Expr} (it : Addr) (z : Str) (t : Tok) (n : String) (hn : n = "str_ascii_iterator" ∨ n = "str_iterator") : Turn P w K tg (Its z) [it] it (fun i h => h.IsStrIter it n z t i) where
  mem := by simp
  obj := fun i h st b hb => by
    obtain rfl : b = it := by simpa using hb
    obtain ⟨o, e, c, d⟩ := st
    exact ⟨o, e, fun v y => by rw [d] at y; cases y⟩
  keep := fun i h h' st k => let ⟨o, e, r⟩ := st; ⟨o, k it (by simp) o e, r⟩
  item := by
    intro X hP hw hK hc i pins s σ H E I hf st hg
    subst hP hw hK
    obtain ⟨f0, f1, f2, f3, f4, f5⟩ := hf it (by simp)
    have hg : i < z.cps.size := hg
    have ec : z.cps[i]? = some z.cps[i] := by simp [hg]
    have fin : ∀ h', h'.IsStrIter it n z t (i + 1) → Heap.SameBut it s.heap h' → ∃ u, some (Value.str ⟨#[z.cps[i]]⟩ s.toks) = some u ∧
        wpAny (model X.prog X.w) X.A (letOwnedTupleGo tg (.ref it) u) (fun _ s2 => ∃ x H', Inv X pins σ H' s2 ∧ RelV x u ∧ (Its z).yld i H x H' ∧ s2.heap.IsStrIter it n z t (i + 1) ∧ ∀ b ∈ [it], H' b = none) E { s with heap := h', toks := s.toks + 1 } := fun h' st' sb => by
      have I1 : Inv X pins σ H { s with heap := h', toks := s.toks + 1 } := I.turned (fun b o hb e => (sb.2 b hb).trans e) f0 f1 f3 f4 f5
      obtain ⟨o, e, c, d⟩ := id st'
      have hno : ["enumerate", "zip", "dict_itemiterator", "dict_reverseitemiterator", "odict_iterator", "itertools.zip_longest", "itertools.pairwise"].contains n = false := by
        rcases hn with rfl | rfl <;> decide
      exact ⟨_, rfl, go_of (s := { s with heap := h', toks := s.toks + 1 }) e c d hno ⟨.str ⟨#[z.cps[i]]⟩, H, I1, ⟨_, rfl⟩, ⟨rfl, _, ec, rfl⟩, st', fun b hb => (hf b hb).1⟩⟩
    rcases hn with rfl | rfl
    · exact wpAny_pyNext_ascii_item st ec fin
    · exact wpAny_pyNext_wide_item st ec fin
  done := by
    intro X hP hw hK hc i pins s σ H E I hf st hg
    subst hP hw hK
    obtain ⟨f0, f1, f2, f3, f4, f5⟩ := hf it (by simp)
    have hg : z.cps.size ≤ i := hg
    have ec : z.cps[i]? = none := by simp [hg]
    rcases hn with rfl | rfl
    · exact wpAny_pyNext_ascii_end (I.ok.hd hc) st ec fun h' eb => ⟨rfl, I.turned (t' := s.toks) (fun b o hb e => eb b o hb e) f0 f1 f3 f4 f5⟩
    · exact wpAny_pyNext_wide_end (I.ok.hd hc) st ec fun h' eb => ⟨rfl, I.turned (t' := s.toks) (fun b o hb e => eb b o hb e) f0 f1 f3 f4 f5⟩
  self := fun _ _ _ _ _ st h => by
    rcases hn with rfl | rfl
    · exact wpAny_pyIter_striter_ascii st h
    · exact wpAny_pyIter_striter_wide st h
section
variable {X : Cx} {tg : Expr}
noncomputable def iSigns (tl : TE) : TI := fun σ H R => tl σ H fun x H1 => ∃ z, x = .str z ∧ R (Its z) H1
theorem pi_signs {l : Expr} {tl : TE} (hl : PE X l tl) : PI X tg l (iSigns tl) := by
  intro pins s σ H R I h
  refine thn (hl pins s σ H _ I h) fun v s1 ⟨x, H1, I1, r1, z, e, q⟩ => ?_
  subst e
  obtain ⟨t, rfl⟩ := r1
  refine wpAny_pyIter_strU ?_
  refine ⟨s1.heap.objs.size, [s1.heap.objs.size], _, _, H1, rfl, I1.kept (t' := s1.toks) fun b o e => Heap.get?_push_of_some _ e, turn_signs _ z t (strIterType z) ?_, ⟨_, Heap.get?_push_size _ rfl, rfl, rfl⟩, fun b hb => ?_, q⟩
  · unfold strIterType
    split
    · exact .inl rfl
    · exact .inr rfl
  · obtain rfl : b = s1.heap.objs.size := by simpa using hb
    exact I1.fpOk (Nat.le_refl _) (I1.hok.fresh (Nat.le_refl _))
noncomputable def rInTx : R2 := fun x y H Q => ∃ (c : Nat) (z : Str), x = .str ⟨#[c]⟩ ∧ y = .str z ∧ Q (.bl (decide (c ∈ z.cps.toList))) H
theorem op_inTx : OpR X (compareOp .In) rInTx := by
  intro pins s σ H x y v u Q I rx ry h
  obtain ⟨c, z, rfl, rfl, q⟩ := h
  obtain ⟨t, rfl⟩ := rx
  obtain ⟨t', rfl⟩ := ry
  refine P.in_str ⟨.bl _, H, I, rfl, ?_⟩
  rw [StrLaws.found_one]
  exact q
noncomputable def rAllB (K : PySem.W.Frag) : List V → Hp → VK → Prop := fun vs H Q => ∃ (p : Addr) (bs : List Bool), vs = [.ref p] ∧ SqL K H p (bs.map V.bl) ∧ Q (.bl (bs.all id)) H
theorem all_range : ∀ (bs : List Bool), (List.range bs.length).all (fun i => (bs[i]?).getD true) = bs.all id := by
  intro bs
  rw [Bool.eq_iff_iff, List.all_eq_true, List.all_eq_true]
  constructor
  · intro h x hx
    obtain ⟨i, hi, e⟩ := List.getElem_of_mem hx
    have q := h i (List.mem_range.mpr hi)
    rw [List.getElem?_eq_getElem hi, e] at q
    exact q
  · intro h i hi
    have hi := List.mem_range.mp hi
    have q := h bs[i] (List.getElem_mem hi)
    rw [List.getElem?_eq_getElem hi]
    exact q
theorem c_allB (hc : X.calm = true) : CallR X (.builtin "all") (rAllB X.K) := by
  intro pins s σ H xs us Q I r h
  obtain ⟨p, bs, rfl, hp, q⟩ := h
  obtain ⟨u, rfl, rx⟩ := r.one
  cases rx
  obtain ⟨its, rl, ht, hz⟩ := I.list hp
  have hlt : p < s.heap.objs.size := by
    obtain ⟨_, e, _⟩ := ht.isList
    exact Heap.lt_size e
  have hlen := rl.length
  rw [List.length_map] at hlen
  refine call_all_walk (wpAny_pyIter_list ht.isList ?_)
  refine ⟨s.heap.objs.size, [s.heap.objs.size, p], [s.heap.objs.size], its.toArray.size, _, _, fun i => (bs[i]?).getD true, rfl, Walks.list (A := X.A.in1) (I.ok.hd hc) _ p (Nat.ne_of_lt hlt) its.toArray, ⟨⟨_, Heap.get?_push_size _ rfl, rfl, rfl⟩, ht.isList.at fun o e => Heap.get?_push_of_some _ e⟩, ?_, fun h' tk hk => ?_⟩
  · intro i v s' Q' E' hv hq
    have hv : its[i]? = some v := by simpa using hv
    have hi : i < bs.length := by
      have := (List.getElem?_eq_some_iff.mp hv).1
      omega
    obtain ⟨u, e1, r1⟩ := rl.get (i := i) (x := .bl bs[i]) (by simp [hi])
    rw [hv] at e1
    cases e1
    obtain rfl : v = Value.bool bs[i] := r1
    refine wpAny_truthy_bool ?_
    have hq : Q' ((bs[i]?).getD true) s' := hq
    rw [List.getElem?_eq_getElem hi] at hq
    exact hq
  · refine ⟨.bl _, H, I.kept (t' := tk) fun b o e => hk b o (fun z => ?_) (Heap.get?_push_of_some _ e), ?_, q⟩
    · exact absurd (Heap.lt_size e) (by rw [List.mem_singleton.mp z]; exact Nat.lt_irrefl _)
    · show Value.bool _ = Value.bool _
      rw [List.size_toArray, ← hlen, all_range]
end
section
variable {te : TE} {Q : VK} {H : Hp} {σ caps : St} {wi : TI} {tc : TT} {K : PySem.W.Frag}
theorem r_iSigns {tl : TE} {R : It → Hp → Prop} (k : tl σ H fun x H1 => ∃ z, x = .str z ∧ R (Its z) H1) : iSigns tl σ H R := k
theorem r_compS {z : Str} (hn : z.length ≤ 1000) (Pv : Addr → Nat → List V → Hp → Prop) (h0 : ∀ acc, H acc = none → Pv acc 0 [] (upd H acc (.lst [])))
    (hs : ∀ acc i ys H1 c, H acc = none → z.cps[i]? = some c → ys.length = i → H1 acc = some (.lst ys) → Pv acc i ys H1 → te (some (.str ⟨#[c]⟩) :: caps) H1 (cNext z.length acc (Pv acc) ys i))
    (hd : ∀ acc ys H1, H acc = none → H1 acc = some (.lst ys) → ys.length = z.length → Pv acc z.length ys H1 → Q (.ref acc) H1) : compK te none (gName 0) (List.replicate 1 none) caps Q (Its z) H := by
  intro acc hacc
  refine ⟨cW z.length acc (Pv acc), ⟨z.length, by simp, Nat.zero_le _, rfl, upd_same, h0 acc hacc⟩, ?_⟩
  rintro i m ys H1 ⟨rfl, hi, hl, ha, p⟩
  refine ⟨ha, ?_⟩
  by_cases hlt : i < z.length
  · refine .inr ⟨small1000 (by omega), hlt, fun us x H' hu y => ?_⟩
    obtain ⟨e, c, ec, y⟩ := y
    subst e y
    obtain ⟨o, rfl⟩ := len1 hu
    exact ⟨⟨[some (.str ⟨#[c]⟩)], rfl, rfl⟩, hs acc i ys _ c hacc ec hl ha p⟩
  · have e : i = z.length := by omega
    subst e
    exact .inl ⟨Nat.le_refl _, hd acc ys H1 hacc ha hl p⟩
theorem r_inTx {c : Nat} {z : Str} (k : Q (.bl (decide (c ∈ z.cps.toList))) H) : rInTx (.str ⟨#[c]⟩) (.str z) H Q := ⟨c, z, rfl, rfl, k⟩
theorem r_allB {p : Addr} {bs : List Bool} (h : H p = some (.lst (bs.map V.bl))) (k : Q (.bl (bs.all id)) H) : rAllB K [.ref p] H Q := ⟨p, bs, rfl, SqL.of h, k⟩
theorem r_split {z y : Str} (hy : (y.length == 0) = false) (hz : z.length ≤ 100000) (k : ∀ l, H l = none → Q (.ref l) (upd H l (.lst ((Txt.split z y).map V.str)))) : rSplit (.str z) [.str y] H Q := ⟨z, y, rfl, rfl, hy, hz, k⟩
end
section
variable {r r' : R2} {ta tb tc : TE} {x y : V} {σ : St} {H : Hp} {Q : VK} {c : Bool}
noncomputable def chnD (r' : R2) (y : V) (Q : VK) : VK := fun w' H4 => r' y w' H4 Q
noncomputable def chnC (r' : R2) (tc : TE) (y : V) (σ : St) (Q : VK) : VK := fun z H3 => ∃ k, z = .bl k ∧ (if k = true then tc σ H3 (chnD r' y Q) else Q (.bl false) H3)
noncomputable def chnB (r r' : R2) (tc : TE) (x : V) (σ : St) (Q : VK) : VK := fun y H2 => r x y H2 (chnC r' tc y σ Q)
noncomputable def chnA (r r' : R2) (tb tc : TE) (σ : St) (Q : VK) : VK := fun x H1 => tb σ H1 (chnB r r' tc x σ Q)
theorem r_chain (k : ta σ H (chnA r r' tb tc σ Q)) : tChain r r' ta tb tc σ H Q := k
theorem r_chnA (k : tb σ H (chnB r r' tc x σ Q)) : chnA r r' tb tc σ Q x H := k
theorem r_chnB (k : r x y H (chnC r' tc y σ Q)) : chnB r r' tc x σ Q y H := k
theorem r_chnC (k : if c = true then tc σ H (chnD r' y Q) else Q (.bl false) H) : chnC r' tc y σ Q (.bl c) H := ⟨c, rfl, k⟩
theorem r_chnD (k : r' x y H Q) : chnD r' x Q y H := k
end
section
variable {K : PySem.W.Frag} {H H' : Hp}
noncomputable def NS (K : PySem.W.Frag) (H : Hp) (x : V) : Prop := ∃ t, TyOf K H x t ∧ PySem.W.kitOne K t (.type "str") = some false
end
noncomputable def pst : List Nat → Nat → Nat → Bool
  | [], k, n => decide (k ≤ 4) && (decide (1 ≤ n) && decide (n ≤ 8))
  | c :: r, k, n => if c = 46 then (decide (1 ≤ n) && decide (n ≤ 8)) && pst r (k + 1) 0 else (decide (97 ≤ c) && decide (c < 123)) && pst r k (n + 1)
noncomputable def postB (z : Str) : Bool := pst z.cps.toList 1 0
noncomputable def partB (z : Str) : Bool := (decide (1 ≤ z.length) && decide (z.length ≤ 8)) && z.cps.toList.all fun c => decide (97 ≤ c) && decide (c < 123)
theorem pst_part : ∀ (l : List Nat) (r : List Nat) (k n : Nat), 46 ∉ l → pst (l ++ r) k n = ((l.all fun c => decide (97 ≤ c) && decide (c < 123)) && pst r k (n + l.length))
  | [], r, k, n, _ => by simp
  | c :: l, r, k, n, h => by
    have h1 : c ≠ 46 := fun e => h (by simp [e])
    have h2 : 46 ∉ l := fun e => h (by simp [e])
    show (if c = 46 then _ else _) = _
    rw [if_neg h1]
    show ((decide (97 ≤ c) && decide (c < 123)) && pst (l ++ r) k (n + 1)) = _
    rw [pst_part l r k (n + 1) h2, List.all_cons, List.length_cons, show n + 1 + l.length = n + (l.length + 1) by omega]
    simp only [Bool.and_assoc]
theorem join_cps1 (x : Str) : (Str.join ⟨#[46]⟩ [x]).cps.toList = x.cps.toList := rfl
theorem join_cps2 (x y : Str) (r : List Str) : (Str.join ⟨#[46]⟩ (x :: y :: r)).cps.toList = x.cps.toList ++ 46 :: (Str.join ⟨#[46]⟩ (y :: r)).cps.toList := by
  show (((x.cps ++ #[46]) ++ (Str.join ⟨#[46]⟩ (y :: r)).cps) : Array Nat).toList = _
  simp
theorem len_cps (z : Str) : z.length = z.cps.toList.length := by unfold Str.length; simp
theorem pst_join : ∀ (ps : List Str) (x : Str) (k : Nat), (∀ p ∈ x :: ps, 46 ∉ p.cps.toList) → pst (Str.join ⟨#[46]⟩ (x :: ps)).cps.toList k 0 = (decide (k + ps.length ≤ 4) && (x :: ps).all partB)
  | [], x, k, h => by
    rw [join_cps1]
    have q := pst_part x.cps.toList [] k 0 (h x (by simp))
    rw [List.append_nil] at q
    rw [q, Nat.zero_add, ← len_cps]
    show (_ && (decide (k ≤ 4) && _)) = _
    simp only [List.all_cons, List.all_nil, Bool.and_true, partB, List.length_nil, Nat.add_zero]
    cases decide (k ≤ 4) <;> cases (decide (1 ≤ x.length) && decide (x.length ≤ 8)) <;> cases (x.cps.toList.all fun c => decide (97 ≤ c) && decide (c < 123)) <;> rfl
  | y :: r, x, k, h => by
    have ih := pst_join r y (k + 1) fun p hp => h p (List.mem_cons_of_mem _ hp)
    rw [join_cps2, pst_part _ _ k 0 (h x (by simp))]
    show (_ && (if 46 = 46 then _ else _)) = _
    rw [if_pos rfl, ih, Nat.zero_add, ← len_cps, List.all_cons (a := x), List.length_cons]
    show (_ && (_ && (decide (k + 1 + r.length ≤ 4) && _))) = (decide (k + (r.length + 1) ≤ 4) && (((_ && _) && _) && _))
    rw [show k + 1 + r.length = k + (r.length + 1) by omega]
    cases decide (k + (r.length + 1) ≤ 4) <;> cases decide (1 ≤ x.length) <;> cases decide (x.length ≤ 8) <;> cases (x.cps.toList.all fun c => decide (97 ≤ c) && decide (c < 123)) <;> cases (y :: r).all partB <;> rfl
theorem post_split (z : Str) : postB z = (decide ((Txt.split z ⟨#[46]⟩).length ≤ 4) && (Txt.split z ⟨#[46]⟩).all partB) := by
  have h1 := StrLaws.join_split z ⟨#[46]⟩
  have h2 := StrLaws.split_free z 46
  have h3 := split_pos z ⟨#[46]⟩
  unfold postB
  generalize hs : Txt.split z ⟨#[46]⟩ = ps at h1 h2 h3 ⊢
  cases ps with
  | nil => simp at h3
  | cons x r =>
    rw [← h1, pst_join r x 1 h2, List.length_cons, show 1 + r.length = r.length + 1 by omega]
theorem sp_short {x y a : Str} (h : a ∈ Txt.split x y) : a.length ≤ x.length := part_short h
theorem sp_few (x y : Str) : (Txt.split x y).length ≤ x.length + 2 := split_le x y
noncomputable def PostQ (K : PySem.W.Frag) (H : Hp) (x : V) (b : Bool) : Prop := (∃ z : Str, x = .str z ∧ z.length ≤ 1000 ∧ b = postB z) ∨ (NS K H x ∧ b = false)
theorem TyOf.sm {K : PySem.W.Frag} {H H' : Hp} {x : V} {t : Value} (ty : TyOf K H x t) (s : Same H H') : TyOf K H' x t := by
  cases ty with
  | non => exact .non
  | bl x => exact .bl x
  | int i => exact .int i
  | str x => exact .str x
  | flt x => exact .flt x
  | lst e => exact .lst (s _ _ e)
  | frz e => exact .frz (s _ _ e)
  | tup e => exact .tup (s _ _ e)
  | dK e => exact .dK (s _ _ e)
  | dT e => exact .dT (s _ _ e)
  | ins e cl ha hn htk hm => exact .ins (s _ _ e) cl ha hn htk hm
theorem NS.sm {K : PySem.W.Frag} {H H' : Hp} {x : V} (h : NS K H x) (s : Same H H') : NS K H' x := let ⟨t, ty, e⟩ := h; ⟨t, TyOf.sm ty s, e⟩
theorem PostQ.sm {K : PySem.W.Frag} {H H' : Hp} {x : V} {b : Bool} (h : PostQ K H x b) (s : Same H H') : PostQ K H' x b := h.imp id fun z => ⟨z.1.sm s, z.2⟩
theorem cps_app (a b : Str) : (a ++ b).cps.toList = a.cps.toList ++ b.cps.toList := by
  show (a.cps ++ b.cps).toList = _
  simp
theorem len_plus (a b : Str) : (a ++ b).length = a.length + b.length := by
  rw [len_cps, len_cps, len_cps, cps_app, List.length_append]
theorem letters_mem (c : Nat) : decide (c ∈ ("abcdefghijklmnopqrstuvwxyz" : Str).cps.toList) = (decide (97 ≤ c) && decide (c < 123)) := by
  have e : ("abcdefghijklmnopqrstuvwxyz" : Str).cps.toList = List.range' 97 26 := by decide +kernel
  rw [e, Bool.eq_iff_iff, Bool.and_eq_true, decide_eq_true_iff, decide_eq_true_iff, decide_eq_true_iff]
  exact List.mem_range'_1
end L2
namespace L2
open PySem PySem.Spec PyProof.Rows
theorem inV_strs {s : Str} {ys : List Str} : inV (.str s) (ys.map V.str) = decide (s ∈ ys) := by
  unfold inV
  induction ys with
  | nil => simp
  | cons y r ih =>
    rw [List.map_cons, List.any_cons, ih]
    by_cases e : y = s
    · subst e
      simp [eqV]
    · have e2 : ¬ s = y := fun z => e z.symm
      simp [eqV, e, e2]
theorem flat_strs : ∀ ys : List Str, (ys.map V.str).all flatV = true
  | [] => rfl
  | y :: r => by rw [List.map_cons, List.all_cons, flat_strs r]; rfl
section
variable {σ : St} {H : Hp} {Q : VK} {K : PySem.W.Frag}
theorem r_ninS {p : Addr} {ys : List Str} {s : Str} (h : H p = some (.lst (ys.map V.str))) (k : Q (.bl (!decide (s ∈ ys))) H) : rIn K true (.str s) (.ref p) H Q := ⟨p, _, rfl, .inl (SqL.of h), rfl, flat_strs _, by rw [inV_strs]; exact k⟩
theorem r_inS {p : Addr} {ys : List Str} {s : Str} (h : H p = some (.lst (ys.map V.str))) (k : Q (.bl (decide (s ∈ ys))) H) : rIn K false (.str s) (.ref p) H Q := ⟨p, _, rfl, .inl (SqL.of h), rfl, flat_strs _, by rw [inV_strs]; exact k⟩
end
noncomputable abbrev sC : Str := Str.ofString "c"
noncomputable def n2 : List TRun := [(sA, sB, Rat.divInt 1 2), (sB, sC, Rat.divInt 1 3)]
end L2
namespace L2
open PySem PySem.Spec PyProof.Rows
inductive Wsh where
  | after (s u : Str) (q : Rat) | within (s u : Str) (q : Rat) | wit (s u : Str) | frm (s : Str) (q : Rat)
noncomputable def WishQ (H : Hp) (v : V) : Wsh → Prop
  | .after s u q => ∃ p t, v = .ref p ∧ H p = some (.tup [.str "after", .str s, .str u, t]) ∧ FrQ H t q
  | .within s u q => ∃ p t, v = .ref p ∧ H p = some (.tup [.str "within", .str s, .str u, t]) ∧ FrQ H t q
  | .wit s u => ∃ p, v = .ref p ∧ H p = some (.tup [.str "with", .str s, .str u])
  | .frm s q => ∃ p t, v = .ref p ∧ H p = some (.tup [.str "from", .str s, t]) ∧ FrQ H t q
theorem WishQ.tk {H H' : Hp} {v : V} : ∀ {w : Wsh}, WishQ H v w → TK H H' → WishQ H' v w
  | .after _ _ _, ⟨p, t, e, h, f⟩, k => ⟨p, t, e, k _ _ h, f.tk k⟩
  | .within _ _ _, ⟨p, t, e, h, f⟩, k => ⟨p, t, e, k _ _ h, f.tk k⟩
  | .wit _ _, ⟨p, e, h⟩, k => ⟨p, e, k _ _ h⟩
  | .frm _ _, ⟨p, t, e, h, f⟩, k => ⟨p, t, e, k _ _ h, f.tk k⟩
noncomputable def PostS (s : Str) : Prop := postB s = true ∧ s.length ≤ 100
theorem PostS.q {K : PySem.W.Frag} {H : Hp} {s : Str} (h : PostS s) : PostQ K H (.str s) true := .inl ⟨s, rfl, by have := h.2; omega, h.1.symm⟩
noncomputable def SmR (q : Rat) : Prop := Sm 8000 q.num ∧ Sm 8000 (q.den : Int)
noncomputable def Wsh.ok : Wsh → Prop
  | .after s u q => PostS s ∧ PostS u ∧ s ≠ u ∧ SmR q
  | .within s u q => PostS s ∧ PostS u ∧ s ≠ u ∧ SmR q
  | .wit s u => PostS s ∧ PostS u ∧ s ≠ u
  | .frm s q => PostS s ∧ 0 ≤ q.num ∧ SmR q
theorem fr_frV (q : Rat) : frV (.int q.num) (.int q.den) = true := by
  show (decide (1 ≤ (q.den : Int)) && decide (Int.gcd q.num q.den = 1)) = true
  have h1 : 1 ≤ (q.den : Int) := by have := q.den_pos; omega
  have h2 : Int.gcd q.num q.den = 1 := q.reduced
  rw [decide_eq_true h1, decide_eq_true h2]
  rfl
theorem FrQ.frq {K : PySem.W.Frag} {H : Hp} {v : V} {q : Rat} (h : FrQ H v q) (s : SmR q) : Frq K H v true := by
  obtain ⟨p, rfl, hp⟩ := h
  exact .inr (.inr ⟨p, _, _, rfl, hp, rfl, rfl, fun a b e1 e2 => by cases e1; cases e2; exact s, (fr_frV q).symm⟩)
inductive PairQ (K : PySem.W.Frag) (H : Hp) : V → V → Bool → Prop
  | one {x y : V} (h : PostQ K H x false) : PairQ K H x y false
  | two {x y : V} (hx : PostQ K H x true) (hy : PostQ K H y false) : PairQ K H x y false
  | both {s u : Str} (hx : PostQ K H (.str s) true) (hy : PostQ K H (.str u) true) : PairQ K H (.str s) (.str u) (!decide (s = u))
theorem PairQ.sm {K : PySem.W.Frag} {H H' : Hp} {x y : V} {b : Bool} (h : PairQ K H x y b) (s : Same H H') : PairQ K H' x y b := by
  cases h with
  | one h => exact .one (h.sm s)
  | two hx hy => exact .two (hx.sm s) (hy.sm s)
  | both hx hy => exact .both (hx.sm s) (hy.sm s)
inductive MomQ (K : PySem.W.Frag) (H : Hp) : V → Bool → Prop
  | no {x : V} (h : Frq K H x false) : MomQ K H x false
  | fr {p : Addr} {a b : Int} (h : H p = some (.tup [.int a, .int b])) (hf : frV (.int a) (.int b) = true) (sa : Sm 8000 a) (sb : Sm 8000 b) : MomQ K H (.ref p) (decide (0 ≤ a))
inductive IsWishQ (K : PySem.W.Frag) (H : Hp) : V → Bool → Prop
  | nt {x : V} (h : NT K H x) : IsWishQ K H x false
  | len {p : Addr} {xs : List V} (h : H p = some (.tup xs)) (n3 : xs.length ≠ 3) (n4 : xs.length ≠ 4) : IsWishQ K H (.ref p) false
  | no3 {p : Addr} {u x t : V} (h : H p = some (.tup [u, x, t])) (hu : NS K H u) : IsWishQ K H (.ref p) false
  | four {p : Addr} {k : Str} {x y t : V} (h : H p = some (.tup [.str k, x, y, t])) (h1 : k ≠ "after") (h2 : k ≠ "within") : IsWishQ K H (.ref p) false
  | nop {p : Addr} {k : Str} {x y t : V} (h : H p = some (.tup [.str k, x, y, t])) (h1 : k = "after" ∨ k = "within") (hp : PairQ K H x y false) : IsWishQ K H (.ref p) false
  | frac {p : Addr} {k : Str} {x y t : V} {b : Bool} (h : H p = some (.tup [.str k, x, y, t])) (h1 : k = "after" ∨ k = "within") (hp : PairQ K H x y true) (ht : ∀ H', Same H H' → Frq K H' t b) : IsWishQ K H (.ref p) b
  | frm0 {p : Addr} {x t : V} (h : H p = some (.tup [.str "from", x, t])) (hx : PostQ K H x false) : IsWishQ K H (.ref p) false
  | frm {p : Addr} {x t : V} {b : Bool} (h : H p = some (.tup [.str "from", x, t])) (hx : PostQ K H x true) (ht : ∀ H', Same H H' → MomQ K H' t b) : IsWishQ K H (.ref p) b
  | wit0 {p : Addr} {k : Str} {x y : V} (h : H p = some (.tup [.str k, x, y])) (h1 : k ≠ "from") (h2 : k ≠ "with") : IsWishQ K H (.ref p) false
  | wit {p : Addr} {x y : V} {b : Bool} (h : H p = some (.tup [.str "with", x, y])) (hp : PairQ K H x y b) : IsWishQ K H (.ref p) b
theorem WishQ.is {K : PySem.W.Frag} {H : Hp} {v : V} : ∀ {w : Wsh}, WishQ H v w → w.ok → IsWishQ K H v true
  | .after s u q, ⟨p, t, e, h, f⟩, ⟨h1, h2, h3, h4⟩ => by
    subst e
    have := PairQ.both (K := K) (H := H) h1.q h2.q
    rw [decide_eq_false h3] at this
    exact .frac h (.inl rfl) this fun H' s' => (f.tk s'.tk).frq h4
  | .within s u q, ⟨p, t, e, h, f⟩, ⟨h1, h2, h3, h4⟩ => by
    subst e
    have := PairQ.both (K := K) (H := H) h1.q h2.q
    rw [decide_eq_false h3] at this
    exact .frac h (.inr rfl) this fun H' s' => (f.tk s'.tk).frq h4
  | .wit s u, ⟨p, e, h⟩, ⟨h1, h2, h3⟩ => by
    subst e
    have := PairQ.both (K := K) (H := H) h1.q h2.q
    rw [decide_eq_false h3] at this
    exact .wit h this
  | .frm s q, ⟨p, t, e, h, f⟩, ⟨h1, h2, h3⟩ => by
    subst e
    refine .frm h h1.q fun H' s' => ?_
    obtain ⟨pt, rfl, hpt⟩ := f.tk s'.tk
    have := MomQ.fr (K := K) hpt (fr_frV q) h3.1 h3.2
    rw [decide_eq_true h2] at this
    exact this
noncomputable abbrev Stp := Str × Str × Rat × Nat
noncomputable def StepQ (H : Hp) (v : V) (x : Stp) : Prop := ∃ p t, v = .ref p ∧ H p = some (.tup [.str x.1, .str x.2.1, t, .int x.2.2.2]) ∧ FrQ H t x.2.2.1
theorem StepQ.tk {H H' : Hp} {v : V} {x : Stp} (h : StepQ H v x) (k : TK H H') : StepQ H' v x := let ⟨p, t, e, h, f⟩ := h; ⟨p, t, e, k _ _ h, f.tk k⟩
noncomputable def stepsBy (k : Nat) : Wsh → List Stp
  | .after s u q => [(s, u, q, k)]
  | .within s u q => [(u, s, -q, k)]
  | .wit s u => [(s, u, 0, k), (u, s, 0, k)]
  | .frm _ _ => []
noncomputable def stepsFrom : Nat → List Wsh → List Stp
  | _, [] => []
  | k, w :: r => stepsBy k w ++ stepsFrom (k + 1) r
noncomputable def stepsOf (ws : List Wsh) : List Stp := stepsFrom 0 ws
theorem stepsBy_len (k : Nat) : ∀ w : Wsh, (stepsBy k w).length ≤ 2
  | .after _ _ _ => by simp [stepsBy]
  | .within _ _ _ => by simp [stepsBy]
  | .wit _ _ => by simp [stepsBy]
  | .frm _ _ => by simp [stepsBy]
theorem stepsFrom_app : ∀ (ws vs : List Wsh) (k : Nat), stepsFrom k (ws ++ vs) = stepsFrom k ws ++ stepsFrom (k + ws.length) vs
  | [], vs, k => by simp [stepsFrom]
  | w :: r, vs, k => by
    show stepsBy k w ++ stepsFrom (k + 1) (r ++ vs) = (stepsBy k w ++ stepsFrom (k + 1) r) ++ _
    rw [stepsFrom_app r vs (k + 1), List.append_assoc, List.length_cons, show k + 1 + r.length = k + (r.length + 1) by omega]
theorem steps_take {ws : List Wsh} {i : Nat} {w : Wsh} (h : ws[i]? = some w) : stepsOf (ws.take (i + 1)) = stepsOf (ws.take i) ++ stepsBy i w := by
  have hi : i < ws.length := (List.getElem?_eq_some_iff.mp h).1
  have e : ws[i] = w := (List.getElem?_eq_some_iff.mp h).2
  unfold stepsOf
  rw [List.take_succ_eq_append_getElem hi, stepsFrom_app, e]
  have : (List.take i ws).length = i := by rw [List.length_take]; omega
  rw [this, Nat.zero_add]
  show _ ++ (stepsBy i w ++ []) = _
  rw [List.append_nil]
theorem stepsFrom_len : ∀ (ws : List Wsh) (k : Nat), (stepsFrom k ws).length ≤ 2 * ws.length
  | [], _ => Nat.le_refl _
  | w :: r, k => by
    have h1 := stepsBy_len k w
    have h2 := stepsFrom_len r (k + 1)
    show (stepsBy k w ++ stepsFrom (k + 1) r).length ≤ _
    rw [List.length_append, List.length_cons]
    omega
theorem steps_len (ws : List Wsh) : (stepsOf ws).length ≤ 2 * ws.length := stepsFrom_len ws 0
noncomputable def dStep (x : Stp) : Dt := .tup [.str x.1, .str x.2.1, dFr x.2.2.1, .int x.2.2.2]
theorem FrQ.den {H : Hp} {v : V} {q : Rat} (h : FrQ H v q) : Den H (dFr q) v := by
  obtain ⟨p, rfl, h⟩ := h
  exact den2 h
theorem StepQ.den {H : Hp} {v : V} {x : Stp} (h : StepQ H v x) : Den H (dStep x) v :=
  let ⟨p, t, e, h, f⟩ := h; ⟨p, _, e, h, _, _, rfl, rfl, _, _, rfl, rfl, _, _, rfl, f.den, _, _, rfl, rfl, rfl⟩
theorem den_of {β : Type} {R : Hp → V → β → Prop} {H : Hp} {f : β → Dt} (hR : ∀ v b, R H v b → Den H (f b) v) : ∀ {ds : List β} {vs : List V}, Paired (R H) vs ds → DenL H (ds.map f) vs
  | [], _, .nil => rfl
  | d :: ds, _, .cons h t => ⟨_, _, rfl, hR _ _ h, den_of hR t⟩
theorem dep_step (x : Stp) : dep (dStep x) ≤ 5 := by simp [dep, depL, dStep, dFr]
theorem depL_of {β : Type} {f : β → Dt} (h : ∀ b, dep (f b) ≤ 5) : ∀ ds : List β, depL (ds.map f) ≤ 50
  | [] => by simp [depL]
  | d :: ds => by
    have h1 := h d
    have h2 := depL_of h ds
    rw [List.map_cons]
    simp only [depL]
    omega
section
variable {H : Hp} {Q : VK} {l1 l2 : Addr}
end
theorem fr_neg {H : Hp} {p : Addr} {q : Rat} (h : H p = some (.tup [.int (-q.num), .int q.den])) : FrQ H (.ref p) (-q) := ⟨p, rfl, by rw [h]; rfl⟩
theorem fr_zero {H : Hp} {p : Addr} (h : H p = some (.tup [.int 0, .int 1])) : FrQ H (.ref p) 0 := ⟨p, rfl, by rw [h]; rfl⟩
theorem pd_app {β : Type} {R : V → β → Prop} : ∀ {xs ys : List V} {ds es : List β}, Paired R xs ds → Paired R ys es → Paired R (xs ++ ys) (ds ++ es)
  | [], _, [], _, .nil, s => s
  | _ :: _, _, _ :: _, _, .cons r t, s => .cons r (pd_app t s)
theorem r_pow30 {H : Hp} {Q : VK} (k : Q (.int 1000000000000000000000000000000) H) : rI CPow (fun i j => .int (i ^ j.toNat)) (.int 10) (.int 30) H Q := r_I ⟨by decide, by decide, by decide⟩ k
theorem fdiv_nat (x : Nat) : ((x : Int).fdiv 26) = ((x / 26 : Nat) : Int) := by
  rw [Int.fdiv_eq_ediv_of_nonneg _ (by decide)]
  omega
noncomputable def Wsh.inU (U : List Str) : Wsh → Prop
  | .after s u _ => s ∈ U ∧ u ∈ U
  | .within s u _ => s ∈ U ∧ u ∈ U
  | .wit s u => s ∈ U ∧ u ∈ U
  | .frm s _ => s ∈ U
theorem smr_low {t b : Int} (hb : 0 < b) (hb2 : b ≤ 10 ^ 30) (h1 : -(10 ^ 30) ≤ t) (h2 : t ≤ 10 ^ 30) : SmR (Rat.divInt t b) := by
  have hb' : b ≠ 0 := by omega
  have e := low_rat (t := t) hb'
  have l1 := lowT_le (t := t) hb'
  have l2 := lowB_le (t := t) hb'
  unfold SmR
  rw [e.1, e.2]
  exact ⟨Sm.le l1 ((Sm.of (n := 102) (by omega) (by omega)).mono (by decide)), Sm.le l2 ((Sm.of (n := 102) (by omega) (by omega)).mono (by decide))⟩
theorem low_nn {t b : Int} (ht : 0 ≤ t) (hb : 0 < b) : 0 ≤ (Rat.divInt t b).num := by
  rw [(low_rat (t := t) (show b ≠ 0 by omega)).1]
  rcases Int.lt_or_eq_of_le ht with h | h
  · exact Int.le_of_lt (lowT_pos h hb)
  · have := lowT_le (t := t) (show b ≠ 0 by omega)
    omega
theorem low_abs {t b : Int} (hb : 0 < b) : (if lowT t b < 0 then -lowT t b else lowT t b) = lowT (if t < 0 then -t else t) b ∧ lowB t b = lowB (if t < 0 then -t else t) b := by
  have hb' : b ≠ 0 := by omega
  have e := low_cross (t := t) hb'
  have p := lowB_pos (t := t) hb'
  have c := low_cop (t := t) hb'
  refine low_of hb' p ?_ ?_
  · split
    · rw [Int.neg_gcd]; exact c
    · exact c
  · by_cases ht : t < 0
    · have : lowT t b < 0 := by
        refine Int.lt_of_not_ge fun h => ?_
        have h1 : 0 ≤ b * lowT t b := Int.mul_nonneg (by omega) h
        have h2 : t * lowB t b < 0 := Int.mul_neg_of_neg_of_pos ht p
        omega
      rw [if_pos ht, if_pos this, Int.neg_mul, Int.neg_mul, e, Int.mul_comm]
    · have : ¬ lowT t b < 0 := fun h => by
        have h1 : b * lowT t b < 0 := Int.mul_neg_of_pos_of_neg hb h
        have h2 : 0 ≤ t * lowB t b := Int.mul_nonneg (by omega) (by omega)
        omega
      rw [if_neg ht, if_neg this, e, Int.mul_comm]
theorem nd_at {U : List Str} (h : U.Nodup) {a c : Nat} (ha : a < U.length) (hc : c < U.length) (e : U[a] = U[c]) : a = c := by
  rcases Nat.lt_trichotomy a c with l | l | l
  · exact absurd e (List.pairwise_iff_getElem.mp h a c ha hc l)
  · exact l
  · exact absurd e.symm (List.pairwise_iff_getElem.mp h c a hc ha l)
theorem pst_two {a b : Nat} (h1 : 97 ≤ a ∧ a < 123) (h2 : 97 ≤ b ∧ b < 123) (r : List Nat) (k n : Nat) : pst (a :: b :: r) k n = pst r k (n + 2) := by
  show (if a = 46 then _ else _) = _
  rw [if_neg (by omega), decide_eq_true h1.1, decide_eq_true h1.2]
  show (true && (if b = 46 then _ else _)) = _
  rw [Bool.true_and, if_neg (by omega), decide_eq_true h2.1, decide_eq_true h2.2]
  rfl
noncomputable def bef (i : Nat) : Str := ([("" : Str), "ab", "abc.d", "x.y.z"][i]?).getD ""
noncomputable def beh (i : Nat) : Str := ([("" : Str), "q", ".r", "qqqq"][i]?).getD ""
noncomputable def nmB (i j : Nat) (a b : Nat) : Str := bef i ++ ⟨#[97 + a]⟩ ++ ⟨#[97 + b]⟩ ++ beh j
theorem nmB_cps (i j a b : Nat) : (nmB i j a b).cps.toList = (bef i).cps.toList ++ (97 + a) :: (97 + b) :: (beh j).cps.toList := by
  unfold nmB
  rw [cps_app, cps_app, cps_app]
  simp
theorem bef_cps : ∀ i, i < 4 → (bef i).cps.toList = ([[], [97, 98], [97, 98, 99, 46, 100], [120, 46, 121, 46, 122]][i]?).getD [] := by decide +kernel
theorem beh_cps : ∀ i, i < 4 → (beh i).cps.toList = ([[], [113], [46, 114], [113, 113, 113, 113]][i]?).getD [] := by decide +kernel
theorem beh_ok : ∀ j, j < 4 → ∀ k, k < 4 → 1 ≤ k → ∀ n, n < 4 → 1 ≤ n → pst (beh j).cps.toList k (n + 1) = true := by
  intro j hj k hk hk1 n hn hn1
  rw [beh_cps j hj]
  have h1 : j = 0 ∨ j = 1 ∨ j = 2 ∨ j = 3 := by omega
  have h2 : k = 1 ∨ k = 2 ∨ k = 3 := by omega
  have h3 : n = 1 ∨ n = 2 ∨ n = 3 := by omega
  rcases h1 with rfl | rfl | rfl | rfl <;> rcases h2 with rfl | rfl | rfl <;> rcases h3 with rfl | rfl | rfl <;> decide
theorem nmB_post {i j a b : Nat} (hi : i < 4) (hj : j < 4) (ha : a < 26) (hb : b < 26) : PostS (nmB i j a b) := by
  have hl : (nmB i j a b).cps.toList.length ≤ 100 := by
    rw [nmB_cps, bef_cps i hi, beh_cps j hj, List.length_append, List.length_cons, List.length_cons]
    have h1 : i = 0 ∨ i = 1 ∨ i = 2 ∨ i = 3 := by omega
    have h2 : j = 0 ∨ j = 1 ∨ j = 2 ∨ j = 3 := by omega
    rcases h1 with rfl | rfl | rfl | rfl <;> rcases h2 with rfl | rfl | rfl | rfl <;> decide
  refine ⟨?_, by rw [len_cps]; exact hl⟩
  unfold postB
  rw [nmB_cps, bef_cps i hi]
  have h1 : i = 0 ∨ i = 1 ∨ i = 2 ∨ i = 3 := by omega
  have e := fun k n => pst_two (a := 97 + a) (b := 97 + b) (by omega) (by omega) (beh j).cps.toList k n
  rcases h1 with rfl | rfl | rfl | rfl
  · show pst ((97 + a) :: (97 + b) :: _) 1 0 = true
    rw [e]
    exact beh_ok j hj 1 (by decide) (by decide) 1 (by decide) (by decide)
  · show pst ((97 + a) :: (97 + b) :: _) 1 2 = true
    rw [e]
    exact beh_ok j hj 1 (by decide) (by decide) 3 (by decide) (by decide)
  · show pst ((97 + a) :: (97 + b) :: _) 2 1 = true
    rw [e]
    exact beh_ok j hj 2 (by decide) (by decide) 2 (by decide) (by decide)
  · show pst ((97 + a) :: (97 + b) :: _) 3 1 = true
    rw [e]
    exact beh_ok j hj 3 (by decide) (by decide) 2 (by decide) (by decide)
theorem nmB_inj {i j a b c d : Nat} (h : nmB i j a b = nmB i j c d) : a = c ∧ b = d := by
  have h1 := congrArg (fun z : Str => z.cps.toList) h
  rw [nmB_cps, nmB_cps] at h1
  have h2 := List.append_cancel_left h1
  injection h2 with h3 h4
  injection h4 with h5 h6
  omega
noncomputable def nmsB (i j o e : Nat) (n : Nat) : List Str := (List.range n).map fun k => nmB i j ((o + k / 26) % 26) ((e + k) % 26)
theorem nmsB_len (i j o e n : Nat) : (nmsB i j o e n).length = n := by unfold nmsB; rw [List.length_map, List.length_range]
theorem nmsB_nd {i j o e n : Nat} (hn : n ≤ 600) : (nmsB i j o e n).Nodup := by
  unfold nmsB
  refine List.pairwise_map.mpr ?_
  refine List.Pairwise.imp_of_mem ?_ List.nodup_range
  intro a b ha hb hne h
  have ha := List.mem_range.mp ha
  have hb := List.mem_range.mp hb
  obtain ⟨h1, h2⟩ := nmB_inj h
  exact hne (by omega)
theorem nmsB_post {i j o e n : Nat} (hi : i < 4) (hj : j < 4) : ∀ s ∈ nmsB i j o e n, PostS s := by
  intro s hs
  unfold nmsB at hs
  obtain ⟨k, _, rfl⟩ := List.mem_map.mp hs
  exact nmB_post hi hj (Nat.mod_lt _ (by decide)) (Nat.mod_lt _ (by decide))
theorem nmsB_snoc (i j o e n : Nat) : nmsB i j o e (n + 1) = nmsB i j o e n ++ [nmB i j ((o + n / 26) % 26) ((e + n) % 26)] := by
  unfold nmsB
  rw [List.range_succ, List.map_append]
  rfl
theorem r_inT {K : PySem.W.Frag} {H : Hp} {Q : VK} {p : Addr} {ys : List Str} {s : Str} (h : H p = some (.tup (ys.map V.str))) (k : Q (.bl (decide (s ∈ ys))) H) : rIn K false (.str s) (.ref p) H Q := ⟨p, _, rfl, .inr (SqT.of h), rfl, flat_strs _, by rw [inV_strs]; exact k⟩
theorem r_nin34 {K : PySem.W.Frag} {H : Hp} {Q : VK} {p : Addr} {n : Int} {b : Bool} (h : H p = some (.tup [.int 3, .int 4])) (e : (!(decide (n = 3) || decide (n = 4))) = b) (k : Q (.bl b) H) : rIn K true (.int n) (.ref p) H Q := by
  refine ⟨p, _, rfl, .inr (SqT.of h), rfl, rfl, ?_⟩
  have : inV (.int n) [.int 3, .int 4] = (decide (n = 3) || decide (n = 4)) := by
    show ((3 == n) || ((4 == n) || false)) = _
    rw [Bool.or_false, Bool.eq_iff_iff]
    simp only [Bool.or_eq_true, beq_iff_eq, decide_eq_true_iff]
    omega
  show Q (.bl (!inV (.int n) [.int 3, .int 4])) H
  rw [this, e]
  exact k
theorem nn_a {a b c : Int} (h1 : 0 ≤ a) (h2 : 0 ≤ b) (h3 : 0 ≤ c) : 0 ≤ (a * 2147483587 + b) * 2147483543 + c := Int.add_nonneg (Int.mul_nonneg (Int.add_nonneg (Int.mul_nonneg h1 (by decide)) h2) (by decide)) h3
theorem nn_b {a c : Int} (h : 0 ≤ a) : 0 ≤ a * 1000000000000000000 + c % 1000000000000000000 := Int.add_nonneg (Int.mul_nonneg h (by decide)) (Int.emod_nonneg c (by decide))
end L2
namespace L2
open PySem
inductive Wk (S : List Stp) (b : Str → Rat) : Str → Rat → Prop
  | own (s : Str) : Wk S b s (b s)
  | step {st : Stp} {q : Rat} (h : st ∈ S) (w : Wk S b st.1 q) : Wk S b st.2.1 (q + st.2.2.1)
inductive Cb (C : Str → Option Stp) : Str → Str → Rat → Prop
  | one {u : Str} {st : Stp} (h : C u = some st) : Cb C u st.1 st.2.2.1
  | cons {u v : Str} {q : Rat} {st : Stp} (h : C u = some st) (r : Cb C st.1 v q) : Cb C u v (q + st.2.2.1)
theorem Cb.le {C : Str → Option Stp} {M : Str → Rat} (hc : ∀ u st, C u = some st → M u ≤ M st.1 + st.2.2.1) : ∀ {u v : Str} {q : Rat}, Cb C u v q → M u ≤ M v + q
  | _, _, _, .one h => hc _ _ h
  | u, v, _, .cons (q := q) (st := st) h r => by
    have h1 := hc _ _ h
    have h2 := Cb.le hc r
    grind
noncomputable def updS {β : Type} (f : Str → β) (k : Str) (v : β) : Str → β := fun x => if x = k then v else f x
theorem updS_same {β : Type} {f : Str → β} {k : Str} {v : β} : updS f k v k = v := if_pos rfl
theorem updS_ne {β : Type} {f : Str → β} {k x : Str} {v : β} (h : x ≠ k) : updS f k v x = f x := if_neg h
structure Bfi (S : List Stp) (b : Str → Rat) (B : List Str) (M : Str → Rat) (C : Str → Option Stp) (T : Str → Nat) (t i : Nat) (late : Option Str) : Prop where
  wk : ∀ s, Wk S b s (M s)
  ge : ∀ s, b s ≤ M s
  cin : ∀ u st, C u = some st → st ∈ S ∧ st.2.1 = u
  cle : ∀ u st, C u = some st → M u ≤ M st.1 + st.2.2.1
  cyc : ∀ u q, Cb C u u q → 0 < q
  tle : ∀ k, T k ≤ t
  old : ∀ st ∈ S, T st.1 + 2 ≤ t → M st.1 + st.2.2.1 ≤ M st.2.1
  now : ∀ st ∈ S.take i, T st.1 = t ∨ M st.1 + st.2.2.1 ≤ M st.2.1
  tc : ∀ u st, C u = some st → T u ≤ T st.1 + 1
  tp : ∀ u, 1 ≤ T u → C u ≠ none
  lt : ∀ u, late = some u → T u = t ∧ 1 ≤ t ∧ u ∈ B
  ln : late = none → ∀ st ∈ S.take i, M st.1 + st.2.2.1 ≤ M st.2.1
section
variable {S : List Stp} {b : Str → Rat} {B : List Str} {M : Str → Rat} {C : Str → Option Stp} {T : Str → Nat} {t i : Nat} {late : Option Str}
theorem Bfi.start (S : List Stp) (b : Str → Rat) (B : List Str) : Bfi S b B b (fun _ => none) (fun _ => 0) 1 0 none where
  wk := fun s => .own s
  ge := fun s => Rat.le_refl
  cin := fun u st h => nomatch h
  cle := fun u st h => nomatch h
  cyc := fun u q h => by cases h with
    | one h => cases h
    | cons h _ => cases h
  tle := fun k => by omega
  old := fun st _ h => by omega
  now := fun st h => by simp at h
  tc := fun u st h => nomatch h
  tp := fun u h => by omega
  lt := fun u h => nomatch h
  ln := fun _ st h => by simp at h
theorem take_mem {st x : Stp} (hi : S[i]? = some st) (h : x ∈ S.take (i + 1)) : x ∈ S.take i ∨ x = st := by
  have hl := (List.getElem?_eq_some_iff.mp hi).1
  rw [List.take_succ_eq_append_getElem hl, (List.getElem?_eq_some_iff.mp hi).2] at h
  rcases List.mem_append.mp h with h | h
  · exact .inl h
  · exact .inr (List.mem_singleton.mp h)
theorem Bfi.skip {st : Stp} (I : Bfi S b B M C T t i late) (hi : S[i]? = some st) (h : ¬ M st.2.1 < M st.1 + st.2.2.1) : Bfi S b B M C T t (i + 1) late where
  wk := I.wk
  ge := I.ge
  cin := I.cin
  cle := I.cle
  cyc := I.cyc
  tle := I.tle
  old := I.old
  now := fun x hx => by
    rcases take_mem hi hx with hx | rfl
    · exact I.now x hx
    · exact .inr (by grind)
  tc := I.tc
  tp := I.tp
  lt := I.lt
  ln := fun hl x hx => by
    rcases take_mem hi hx with hx | rfl
    · exact I.ln hl x hx
    · grind
theorem Bfi.step {st : Stp} (I : Bfi S b B M C T t i late) (hi : S[i]? = some st) (hB : st.2.1 ∈ B) (hne : st.1 ≠ st.2.1) (ht : 1 ≤ t) (h : M st.2.1 < M st.1 + st.2.2.1) :
    Bfi S b B (updS M st.2.1 (M st.1 + st.2.2.1)) (updS C st.2.1 (some st)) (updS T st.2.1 t) t (i + 1) (some st.2.1) := by
  have hm : ∀ k, M k ≤ updS M st.2.1 (M st.1 + st.2.2.1) k := fun k => by
    unfold updS
    split
    · rename_i e; subst e; grind
    · exact Rat.le_refl
  have hs : updS M st.2.1 (M st.1 + st.2.2.1) st.1 = M st.1 := updS_ne hne
  have hST : st ∈ S := List.mem_of_getElem? hi
  have key : ∀ {a v : Str} {q : Rat}, Cb (updS C st.2.1 (some st)) a v q → Cb C a v q ∨ M a < M v + q := by
    intro a v q hcb
    induction hcb with
    | @one u s1 hu =>
      by_cases e : u = st.2.1
      · subst e
        rw [updS_same] at hu
        cases hu
        exact .inr h
      · rw [updS_ne e] at hu
        exact .inl (.one hu)
    | @cons u v q s1 hu r ih =>
      by_cases e : u = st.2.1
      · subst e
        rw [updS_same] at hu
        cases hu
        rcases ih with ih | ih
        · have := Cb.le I.cle ih
          exact .inr (by grind)
        · exact .inr (by grind)
      · rw [updS_ne e] at hu
        rcases ih with ih | ih
        · exact .inl (.cons hu ih)
        · have := I.cle _ _ hu
          exact .inr (by grind)
  refine ⟨fun s => ?_, fun s => ?_, fun u s1 hu => ?_, fun u s1 hu => ?_, fun u q hcb => ?_, fun k => ?_, fun x hx hT => ?_, fun x hx => ?_, fun u s1 hu => ?_, fun u hu => ?_, fun u hu => ?_, fun hu => (by cases hu)⟩
  · by_cases e : s = st.2.1
    · subst e
      rw [updS_same]
      exact .step hST (I.wk _)
    · rw [updS_ne e]
      exact I.wk s
  · exact Rat.le_trans (I.ge s) (hm s)
  · by_cases e : u = st.2.1
    · subst e
      rw [updS_same] at hu
      cases hu
      exact ⟨hST, rfl⟩
    · rw [updS_ne e] at hu
      exact I.cin u s1 hu
  · by_cases e : u = st.2.1
    · subst e
      rw [updS_same] at hu
      cases hu
      rw [updS_same, hs]
      exact Rat.le_refl
    · rw [updS_ne e] at hu
      rw [updS_ne e]
      have h1 := I.cle u s1 hu
      have h2 := hm s1.1
      grind
  · rcases key hcb with hc | hc
    · exact I.cyc u q hc
    · grind
  · unfold updS
    split
    · exact Nat.le_refl _
    · exact I.tle k
  · have hx1 : x.1 ≠ st.2.1 := fun e => by
      rw [e, updS_same] at hT
      omega
    rw [updS_ne hx1] at hT ⊢
    have := I.old x hx hT
    have h2 := hm x.2.1
    grind
  · by_cases e : x.1 = st.2.1
    · rw [e, updS_same]
      exact .inl rfl
    · rw [updS_ne e, updS_ne e]
      rcases take_mem hi hx with hx | rfl
      · rcases I.now x hx with h1 | h1
        · exact .inl h1
        · have h2 := hm x.2.1
          exact .inr (by grind)
      · rw [updS_same]
        exact .inr Rat.le_refl
  · by_cases e : u = st.2.1
    · subst e
      rw [updS_same] at hu
      cases hu
      rw [updS_same, updS_ne hne]
      refine Nat.le_of_not_lt fun hlt => ?_
      have := I.old st hST (by omega)
      grind
    · rw [updS_ne e] at hu
      rw [updS_ne e]
      have h1 := I.tc u s1 hu
      unfold updS
      split
      · have := I.tle u
        omega
      · exact h1
  · by_cases e : u = st.2.1
    · subst e
      rw [updS_same]
      intro z
      cases z
    · rw [updS_ne e] at hu ⊢
      exact I.tp u hu
  · cases hu
    rw [updS_same]
    exact ⟨rfl, ht, hB⟩
theorem Bfi.turn (I : Bfi S b B M C T t S.length late) : Bfi S b B M C T (t + 1) 0 none where
  wk := I.wk
  ge := I.ge
  cin := I.cin
  cle := I.cle
  cyc := I.cyc
  tle := fun k => Nat.le_succ_of_le (I.tle k)
  old := fun st hst hT => by
    rcases I.now st (by rw [List.take_length]; exact hst) with h | h
    · omega
    · exact h
  now := fun st h => by simp at h
  tc := I.tc
  tp := I.tp
  lt := fun u h => nomatch h
  ln := fun _ st h => by simp at h
end
noncomputable def itr (f : Str → Str) : Nat → Str → Str
  | 0, x => x
  | n + 1, x => itr f n (f x)
theorem itr_add (f : Str → Str) : ∀ (m n : Nat) (x : Str), itr f (m + n) x = itr f n (itr f m x)
  | 0, n, x => by rw [Nat.zero_add]; rfl
  | m + 1, n, x => by rw [Nat.succ_add]; exact itr_add f m n (f x)
theorem itr_succ (f : Str → Str) (n : Nat) (x : Str) : itr f (n + 1) x = f (itr f n x) := itr_add f n 1 x
noncomputable def bk (C : Str → Option Stp) (u : Str) : Str := ((C u).map (·.1)).getD u
theorem bk_of {C : Str → Option Stp} {u : Str} {st : Stp} (h : C u = some st) : bk C u = st.1 := by unfold bk; rw [h]; rfl
theorem rep_of {f : Str → Str} {u : Str} {L : List Str} (h : ∀ j, j ≤ L.length → itr f j u ∈ L) : ∃ i j, i < j ∧ j ≤ L.length ∧ itr f i u = itr f j u := by
  refine Classical.byContradiction fun hno => ?_
  have nd : ((List.range (L.length + 1)).map fun j => itr f j u).Nodup := by
    refine List.pairwise_map.mpr (List.Pairwise.imp_of_mem ?_ List.nodup_range)
    intro a c ha hc hne e
    have ha := List.mem_range.mp ha
    have hc := List.mem_range.mp hc
    rcases Nat.lt_trichotomy a c with hl | hl | hl
    · exact hno ⟨a, c, hl, by omega, e⟩
    · exact hne hl
    · exact hno ⟨c, a, hl, by omega, e.symm⟩
  have := nd_len nd (m := L) fun x hx => by
    obtain ⟨j, hj, rfl⟩ := List.mem_map.mp hx
    exact h j (by have := List.mem_range.mp hj; omega)
  rw [List.length_map, List.length_range] at this
  omega
theorem per_of {f : Str → Str} {u : Str} {i j : Nat} (hij : i < j) (e : itr f i u = itr f j u) : ∀ k, i ≤ k → ∃ k', i ≤ k' ∧ k' < j ∧ itr f k u = itr f k' u := by
  intro k
  induction k using Nat.strongRecOn with
  | ind k ih =>
    intro hk
    by_cases hkj : k < j
    · exact ⟨k, hk, hkj, rfl⟩
    · have e1 : itr f k u = itr f (k - (j - i)) u := by
        have h1 : k = j + (k - j) := by omega
        have h2 : k - (j - i) = i + (k - j) := by omega
        rw [h2, itr_add, e, ← itr_add, ← h1]
      obtain ⟨k', h1, h2, h3⟩ := ih (k - (j - i)) (by omega) (by omega)
      exact ⟨k', h1, h2, e1.trans h3⟩
theorem Bfi.ring {S : List Stp} {b : Str → Rat} {B : List Str} {M : Str → Rat} {C : Str → Option Stp} {T : Str → Nat} {t : Nat} {u : Str} (I : Bfi S b B M C T t S.length (some u)) (hSB : ∀ st ∈ S, st.1 ∈ B ∧ st.2.1 ∈ B) (hBn : B.Nodup) (hBt : B.length ≤ t)
    {L : List Str} (hL : ∀ k, k ∈ L ↔ C k ≠ none) (nd : L.Nodup) : (∀ j, j ≤ L.length → C (itr (bk C) j u) ≠ none) ∧ (∀ j, C (itr (bk C) j (itr (bk C) L.length u)) ≠ none) ∧ ∃ P, 1 ≤ P ∧ P ≤ L.length ∧ itr (bk C) P (itr (bk C) L.length u) = itr (bk C) L.length u := by
  obtain ⟨hT, ht1, huB⟩ := I.lt u rfl
  have hLB : ∀ k ∈ L, k ∈ B := fun k hk => by
    cases hc : C k with
    | none => exact absurd hc ((hL k).mp hk)
    | some st =>
      have := I.cin k st hc
      rw [← this.2]
      exact (hSB st this.1).2
  have hLl : L.length ≤ B.length := nd_len nd hLB
  have chain : ∀ j, j < t → t ≤ T (itr (bk C) j u) + j ∧ C (itr (bk C) j u) ≠ none ∧ itr (bk C) j u ∈ B := by
    intro j
    induction j with
    | zero => exact fun _ => ⟨by show t ≤ T u + 0; omega, I.tp u (by omega), huB⟩
    | succ j ih =>
      intro hj
      obtain ⟨h1, h2, h3⟩ := ih (by omega)
      cases hc : C (itr (bk C) j u) with
      | none => exact absurd hc h2
      | some st =>
        have e : itr (bk C) (j + 1) u = st.1 := by rw [itr_succ, bk_of hc]
        have h4 := I.tc _ _ hc
        have h5 := (hSB st (I.cin _ _ hc).1).1
        rw [e]
        exact ⟨by omega, I.tp _ (by omega), h5⟩
  have inL : ∀ j, j ≤ L.length → C (itr (bk C) j u) ≠ none := by
    intro j hj
    by_cases hjt : j < t
    · exact (chain j hjt).2.1
    · have e1 : L.length = t ∧ B.length = t ∧ j = t := by omega
      have hjB : itr (bk C) j u ∈ B := by
        obtain ⟨k, rfl⟩ : ∃ k, j = k + 1 := ⟨j - 1, by omega⟩
        obtain ⟨_, h2, _⟩ := chain k (by omega)
        cases hc : C (itr (bk C) k u) with
        | none => exact absurd hc h2
        | some st =>
          rw [itr_succ, bk_of hc]
          exact (hSB st (I.cin _ _ hc).1).1
      refine (hL _).mp (Classical.byContradiction fun hno => ?_)
      have := nd_len (l := itr (bk C) j u :: L) (m := B) (List.nodup_cons.mpr ⟨hno, nd⟩) fun x hx => by
        rcases List.mem_cons.mp hx with rfl | hx
        · exact hjB
        · exact hLB x hx
      rw [List.length_cons] at this
      omega
  obtain ⟨i, j, hij, hj, e⟩ := rep_of (f := bk C) (u := u) (L := L) fun j hj => (hL _).mpr (inL j hj)
  have per := per_of hij e
  refine ⟨inL, fun k => ?_, j - i, by omega, by omega, ?_⟩
  · rw [← itr_add]
    obtain ⟨k', h1, h2, h3⟩ := per (L.length + k) (by omega)
    rw [h3]
    exact inL k' (by omega)
  · rw [← itr_add]
    have h1 : L.length + (j - i) = j + (L.length - i) := by omega
    have h2 : L.length = i + (L.length - i) := by omega
    rw [h1, itr_add, ← e, ← itr_add, ← h2]
structure RingOk (S R : List Stp) : Prop where
  ne : R ≠ []
  sub : ∀ st ∈ R, st ∈ S
  nd : (R.map (·.2.1)).Nodup
  link : ∀ k, k + 1 < R.length → ∀ x y, R[k]? = some x → R[k + 1]? = some y → y.1 = x.2.1
  wrap : ∀ x y, R[0]? = some x → R.getLast? = some y → x.1 = y.2.1
  pos : 0 < (R.map (·.2.2.1)).sum
noncomputable def backs (C : Str → Option Stp) (k : Nat) (b : Str) : List Stp := (List.range k).filterMap fun j => C (itr (bk C) j b)
theorem backs_len {C : Str → Option Stp} {b : Str} (h : ∀ j, C (itr (bk C) j b) ≠ none) : ∀ k, (backs C k b).length = k
  | 0 => rfl
  | k + 1 => by
    have ih := backs_len h k
    unfold backs at ih ⊢
    rw [List.range_succ, List.filterMap_append, List.length_append, ih]
    cases hc : C (itr (bk C) k b) with
    | none => exact absurd hc (h k)
    | some st => simp [hc]
theorem backs_succ {C : Str → Option Stp} {b : Str} {k : Nat} {st : Stp} (h : C (itr (bk C) k b) = some st) : backs C (k + 1) b = backs C k b ++ [st] := by
  unfold backs
  rw [List.range_succ, List.filterMap_append]
  simp [h]
theorem backs_at {C : Str → Option Stp} {b : Str} (h : ∀ j, C (itr (bk C) j b) ≠ none) : ∀ {k j : Nat}, j < k → (backs C k b)[j]? = C (itr (bk C) j b)
  | 0, _, hj => absurd hj (Nat.not_lt_zero _)
  | k + 1, j, hj => by
    cases hc : C (itr (bk C) k b) with
    | none => exact absurd hc (h k)
    | some st =>
      rw [backs_succ hc]
      have hl := backs_len h k
      by_cases e : j = k
      · subst e
        rw [List.getElem?_append_right (by omega), hl, Nat.sub_self, hc]
        rfl
      · rw [List.getElem?_append_left (by omega)]
        exact backs_at h (by omega)
theorem backs_cb {C : Str → Option Stp} : ∀ {k : Nat} {b : Str}, (∀ j, C (itr (bk C) j b) ≠ none) → 1 ≤ k → Cb C b (itr (bk C) k b) ((backs C k b).map (·.2.2.1)).sum
  | 0, _, _, hk => absurd hk (by decide)
  | 1, b, h, _ => by
    cases hc : C b with
    | none => exact absurd hc (h 0)
    | some st =>
      rw [show backs C 1 b = [st] by unfold backs; simp [itr, hc]]
      have e : itr (bk C) 1 b = st.1 := bk_of hc
      rw [e]
      have : ([st].map fun x : Stp => x.2.2.1).sum = st.2.2.1 := by simp [Rat.add_zero]
      rw [this]
      exact .one hc
  | k + 2, b, h, _ => by
    cases hc : C b with
    | none => exact absurd hc (h 0)
    | some st =>
      have e : ∀ n, itr (bk C) (n + 1) b = itr (bk C) n st.1 := fun n => by show itr (bk C) n (bk C b) = _; rw [bk_of hc]
      have h' : ∀ j, C (itr (bk C) j st.1) ≠ none := fun j => by rw [← e]; exact h (j + 1)
      have eb : backs C (k + 2) b = st :: backs C (k + 1) st.1 := by
        unfold backs
        rw [List.range_succ_eq_map, List.filterMap_cons]
        rw [show C (itr (bk C) 0 b) = some st from hc]
        simp only [List.filterMap_map]
        congr 1
        have ef : ((fun j => C (itr (bk C) j b)) ∘ Nat.succ) = fun j => C (itr (bk C) j st.1) := funext fun j => by
          show C (itr (bk C) (j + 1) b) = _
          rw [e]
        rw [ef]
      have ih := backs_cb (k := k + 1) h' (by omega)
      rw [eb, e, List.map_cons, List.sum_cons, Rat.add_comm]
      exact .cons hc ih
theorem sum_rev : ∀ l : List Rat, l.reverse.sum = l.sum
  | [] => rfl
  | x :: r => by
    rw [List.reverse_cons, List.sum_append, sum_rev r, List.sum_cons, List.sum_cons, List.sum_nil, Rat.add_zero, Rat.add_comm]
theorem ring_ok {S : List Stp} {C : Str → Option Stp} {b : Str} {k : Nat} (h : ∀ j, C (itr (bk C) j b) ≠ none) (cin : ∀ u st, C u = some st → st ∈ S ∧ st.2.1 = u) (cyc : ∀ u q, Cb C u u q → 0 < q) (hk : 1 ≤ k) (he : itr (bk C) k b = b) (hno : ∀ j, 0 < j → j < k → itr (bk C) j b ≠ b) :
    RingOk S (backs C k b).reverse := by
  have hl := backs_len h k
  have at' : ∀ {j st}, (backs C k b)[j]? = some st → C (itr (bk C) j b) = some st ∧ j < k := fun {j st} e => by
    have hj : j < k := by have := (List.getElem?_eq_some_iff.mp e).1; omega
    exact ⟨by rw [← backs_at h hj]; exact e, hj⟩
  have rev : ∀ {j}, j < k → (backs C k b).reverse[j]? = (backs C k b)[k - 1 - j]? := fun {j} hj => by rw [List.getElem?_reverse (by omega), hl]
  refine ⟨fun z => ?_, fun st hst => ?_, ?_, fun j hj x y hx hy => ?_, fun x y hx hy => ?_, ?_⟩
  · have := congrArg List.length z
    rw [List.length_reverse, hl, List.length_nil] at this
    omega
  · obtain ⟨j, hj⟩ := List.getElem?_of_mem (List.mem_reverse.mp hst)
    exact (cin _ _ (at' hj).1).1
  · rw [List.map_reverse]
    refine List.pairwise_reverse.mpr ?_
    have e : (backs C k b).map (·.2.1) = (List.range k).map fun j => itr (bk C) j b := by
      apply List.ext_getElem?
      intro j
      rw [List.getElem?_map, List.getElem?_map]
      by_cases hj : j < k
      · rw [backs_at h hj, List.getElem?_range hj]
        cases hc : C (itr (bk C) j b) with
        | none => exact absurd hc (h j)
        | some st => show some st.2.1 = some _; rw [(cin _ _ hc).2]
      · rw [List.getElem?_eq_none (by omega), List.getElem?_eq_none (by rw [List.length_range]; omega)]
        rfl
    rw [e]
    refine List.pairwise_map.mpr (List.Pairwise.imp_of_mem ?_ List.nodup_range)
    have main : ∀ a c, a < c → c < k → itr (bk C) a b ≠ itr (bk C) c b := fun a c hac hck z => by
      refine hno (a + (k - c)) (by omega) (by omega) ?_
      rw [itr_add, z, ← itr_add, show c + (k - c) = k by omega]
      exact he
    intro a c ha hc hne z
    have ha := List.mem_range.mp ha
    have hc := List.mem_range.mp hc
    rcases Nat.lt_trichotomy a c with q | q | q
    · exact main a c q hc z.symm
    · exact hne q
    · exact main c a q ha z
  · rw [List.length_reverse, hl] at hj
    rw [rev (by omega)] at hx hy
    obtain ⟨h1, _⟩ := at' hx
    obtain ⟨h2, _⟩ := at' hy
    have e : itr (bk C) (k - 1 - (j + 1) + 1) b = y.1 := by rw [itr_succ, bk_of h2]
    rw [show k - 1 - (j + 1) + 1 = k - 1 - j by omega] at e
    rw [← e, ← (cin _ _ h1).2]
  · rw [rev (by omega), Nat.sub_zero] at hx
    obtain ⟨h1, _⟩ := at' hx
    rw [List.getLast?_reverse, List.head?_eq_getElem?] at hy
    obtain ⟨h2, _⟩ := at' hy
    have e : itr (bk C) (k - 1 + 1) b = x.1 := by rw [itr_succ, bk_of h1]
    rw [show k - 1 + 1 = k by omega, he] at e
    rw [← e]
    exact (cin _ _ h2).2.symm
  · rw [List.map_reverse, sum_rev]
    have := backs_cb h hk
    rw [he] at this
    exact cyc _ _ this
theorem wk_tight {S : List Stp} {b M : Str → Rat} (hs : ∀ st ∈ S, M st.1 + st.2.2.1 ≤ M st.2.1) (hb : ∀ s, b s ≤ M s) : ∀ {s : Str} {q : Rat}, Wk S b s q → q ≤ M s
  | _, _, .own s => hb s
  | _, _, .step (st := st) (q := q) h w => by
    have h1 := wk_tight hs hb w
    have h2 := hs st h
    grind
theorem wk_all {S : List Stp} {b M : Str → Rat} (hs : ∀ st ∈ S, M st.1 + st.2.2.1 ≤ M st.2.1) (hb : ∀ s, b s ≤ M s) {Pd : Str → Prop} (h0 : ∀ s, M s = b s → Pd s) (h1 : ∀ st ∈ S, M st.2.1 = M st.1 + st.2.2.1 → Pd st.1 → Pd st.2.1) :
    ∀ {s : Str} {q : Rat}, Wk S b s q → q = M s → Pd s
  | _, _, .own s, e => h0 s e.symm
  | _, _, .step (st := st) (q := q) h w, e => by
    have h2 := wk_tight hs hb w
    have h3 := hs st h
    have e1 : q = M st.1 := by grind
    exact h1 st h (by grind) (wk_all hs hb h0 h1 w e1)
theorem ring_no {S R : List Stp} {M : Str → Rat} (h : RingOk S R) (hs : ∀ st ∈ S, M st.1 + st.2.2.1 ≤ M st.2.1) : False := by
  have main : ∀ (l : List Stp) (x0 : Stp), (∀ st ∈ l, st ∈ S) → (∀ k, k + 1 < l.length → ∀ x y, l[k]? = some x → l[k + 1]? = some y → y.1 = x.2.1) → l.head? = some x0 → ∀ y, l.getLast? = some y → M x0.1 + (l.map (·.2.2.1)).sum ≤ M y.2.1 := by
    intro l
    induction l with
    | nil => intro x0 _ _ hh; cases hh
    | cons z r ih =>
      intro x0 hsub hlink hh y hy
      cases hh
      cases r with
      | nil =>
        cases hy
        have := hs z (hsub z (by simp))
        simpa [Rat.add_zero] using this
      | cons z2 r2 =>
        have h1 := hs z (hsub z (by simp))
        have h2 := ih z2 (fun st hst => hsub st (List.mem_cons_of_mem _ hst)) (fun k hk x y' hx hy' => hlink (k + 1) (by simp at hk ⊢; omega) x y' (by simpa using hx) (by simpa using hy')) rfl y (by rw [List.getLast?_cons_cons] at hy; exact hy)
        have h3 := hlink 0 (by simp) z z2 rfl rfl
        rw [List.map_cons, List.sum_cons]
        rw [h3] at h2
        grind
  cases hR : R with
  | nil => exact h.ne hR
  | cons x0 r =>
    have hl : R.getLast? = some (R.getLast h.ne) := List.getLast?_eq_some_getLast h.ne
    have h1 := main R x0 (fun st hst => hs' st hst) h.link (by rw [hR]; rfl) _ hl
    have h2 := h.wrap x0 _ (by rw [hR]; rfl) hl
    rw [h2] at h1
    have := h.pos
    grind
where hs' : ∀ st ∈ R, st ∈ S := h.sub
section
variable {κ β : Type} [DecidableEq κ]
noncomputable def asd (m : AL κ β) (k : κ) (v : β) : AL κ β := match aget m k with | some _ => m | none => m ++ [(k, v)]
theorem aget_snoc {m : AL κ β} {k j : κ} {v : β} (h : aget m k = none) : aget (m ++ [(k, v)]) j = if j = k then some v else aget m j := by
  unfold aget
  rw [List.find?_append]
  by_cases e : j = k
  · subst e
    have : m.find? (fun kv => decide (kv.1 = j)) = none := by
      unfold aget at h
      exact Option.map_eq_none_iff.mp h
    rw [this, if_pos rfl]
    simp
  · rw [if_neg e]
    cases hf : m.find? (fun kv => decide (kv.1 = j)) with
    | some x => rfl
    | none =>
      have : ¬ k = j := fun z => e z.symm
      simp [this]
theorem asd_get {m : AL κ β} {k j : κ} {v : β} : aget (asd m k v) j = if j = k ∧ aget m k = none then some v else aget m j := by
  unfold asd
  cases h : aget m k with
  | some x => simp
  | none =>
    show aget (m ++ [(k, v)]) j = _
    rw [aget_snoc h]
    by_cases e : j = k <;> simp [e]
theorem asd_has {m : AL κ β} {k : κ} {v : β} : ∃ x, aget (asd m k v) k = some x := by
  rw [asd_get]
  cases h : aget m k with
  | some x => exact ⟨x, by simp⟩
  | none => exact ⟨v, by simp⟩
theorem asd_keep {m : AL κ β} {k j : κ} {v x : β} (h : aget m j = some x) : aget (asd m k v) j = some x := by
  rw [asd_get, if_neg, h]
  rintro ⟨rfl, e⟩
  rw [h] at e
  cases e
end
noncomputable def bfrm (m : AL Key Rat) (s : Str) (q : Rat) : AL Key Rat := match aget (asd m (Sum.inr s) 0) (Sum.inr s) with
  | some r => if r < q then aput (asd m (Sum.inr s) 0) (Sum.inr s) q else asd m (Sum.inr s) 0
  | none => asd m (Sum.inr s) 0
noncomputable def bstep (m : AL Key Rat) : Wsh → AL Key Rat
  | .after s u _ => asd (asd m (Sum.inr s) 0) (Sum.inr u) 0
  | .within s u _ => asd (asd m (Sum.inr s) 0) (Sum.inr u) 0
  | .wit s u => asd (asd m (Sum.inr s) 0) (Sum.inr u) 0
  | .frm s q => bfrm m s q
noncomputable def bfold (ws : List Wsh) : AL Key Rat := ws.foldl bstep []
theorem bfold_snoc (ws : List Wsh) (w : Wsh) : bfold (ws ++ [w]) = bstep (bfold ws) w := by
  unfold bfold
  rw [List.foldl_append]
  rfl
structure BOk (Pk : Str → Prop) (Pv : Rat → Prop) (m : AL Key Rat) : Prop where
  nd : (m.map (·.1)).Nodup
  ks : ∀ x ∈ m, ∃ s, x.1 = Sum.inr s ∧ Pk s
  vs : ∀ x ∈ m, Pv x.2
theorem BOk.asd {Pk : Str → Prop} {Pv : Rat → Prop} {m : AL Key Rat} {s : Str} (h : BOk Pk Pv m) (hk : Pk s) (h0 : Pv 0) : BOk Pk Pv (L2.asd m (Sum.inr s) 0) := by
  unfold L2.asd
  cases e : aget m (Sum.inr s) with
  | some x => exact h
  | none =>
    have hn := aget_nokey e
    refine ⟨?_, fun x hx => ?_, fun x hx => ?_⟩
    · show ((m ++ [((Sum.inr s : Key), (0 : Rat))]).map (·.1)).Nodup
      rw [List.map_append]
      exact nd_snoc h.nd hn
    · rcases List.mem_append.mp hx with hx | hx
      · exact h.ks x hx
      · rw [List.mem_singleton.mp hx]
        exact ⟨s, rfl, hk⟩
    · rcases List.mem_append.mp hx with hx | hx
      · exact h.vs x hx
      · rw [List.mem_singleton.mp hx]
        exact h0
theorem aput_mem_of {κ β : Type} [DecidableEq κ] {m : AL κ β} {k : κ} {v : β} {x : κ × β} (h : x ∈ aput m k v) : x = (k, v) ∨ x ∈ m := by
  unfold aput at h
  split at h
  · obtain ⟨y, hy, e⟩ := List.mem_map.mp h
    split at e
    · rename_i hk
      left
      rw [← e, hk]
    · right
      rw [← e]
      exact hy
  · rcases List.mem_append.mp h with h | h
    · exact .inr h
    · exact .inl (List.mem_singleton.mp h)
theorem BOk.put {Pk : Str → Prop} {Pv : Rat → Prop} {m : AL Key Rat} {s : Str} {q : Rat} (h : BOk Pk Pv m) (hk : Pk s) (hq : Pv q) : BOk Pk Pv (aput m (Sum.inr s) q) where
  nd := aput_nd h.nd
  ks := fun x hx => by
    rcases aput_mem_of hx with rfl | hx
    · exact ⟨s, rfl, hk⟩
    · exact h.ks x hx
  vs := fun x hx => by
    rcases aput_mem_of hx with rfl | hx
    · exact hq
    · exact h.vs x hx
noncomputable def Wsh.pk (Pk : Str → Prop) (Pv : Rat → Prop) : Wsh → Prop
  | .after s u _ => Pk s ∧ Pk u
  | .within s u _ => Pk s ∧ Pk u
  | .wit s u => Pk s ∧ Pk u
  | .frm s q => Pk s ∧ Pv q
theorem bstep_ok {Pk : Str → Prop} {Pv : Rat → Prop} {m : AL Key Rat} (h0 : Pv 0) : ∀ {w : Wsh}, BOk Pk Pv m → w.pk Pk Pv → BOk Pk Pv (bstep m w)
  | .after s u _, h, hw => (h.asd hw.1 h0).asd hw.2 h0
  | .within s u _, h, hw => (h.asd hw.1 h0).asd hw.2 h0
  | .wit s u, h, hw => (h.asd hw.1 h0).asd hw.2 h0
  | .frm s q, h, hw => by
    have h1 := h.asd (s := s) hw.1 h0
    show BOk Pk Pv (bfrm m s q)
    unfold bfrm
    split
    · split
      · exact h1.put hw.1 hw.2
      · exact h1
    · exact h1
theorem bfold_ok {Pk : Str → Prop} {Pv : Rat → Prop} (h0 : Pv 0) : ∀ (ws : List Wsh), (∀ w ∈ ws, w.pk Pk Pv) → BOk Pk Pv (bfold ws) := by
  have main : ∀ (ws : List Wsh) (m : AL Key Rat), BOk Pk Pv m → (∀ w ∈ ws, w.pk Pk Pv) → BOk Pk Pv (ws.foldl bstep m) := by
    intro ws
    induction ws with
    | nil => exact fun m h _ => h
    | cons w r ih => exact fun m h hw => ih _ (bstep_ok h0 h (hw w (by simp))) fun x hx => hw x (List.mem_cons_of_mem _ hx)
  exact fun ws hw => main ws [] ⟨List.nodup_nil, fun x hx => (by cases hx), fun x hx => (by cases hx)⟩ hw
noncomputable def hasB (m : AL Key Rat) (s : Str) : Prop := ∃ q, aget m (Sum.inr s) = some q
theorem hasB.asd {m : AL Key Rat} {s : Str} {k : Key} {v : Rat} (h : hasB m s) : hasB (L2.asd m k v) s := let ⟨q, e⟩ := h; ⟨q, asd_keep e⟩
theorem hasB.put {m : AL Key Rat} {s : Str} {k : Key} {v : Rat} (h : hasB m s) : hasB (aput m k v) s := by
  obtain ⟨q, e⟩ := h
  unfold hasB
  rw [aget_put]
  split
  · exact ⟨_, rfl⟩
  · exact ⟨q, e⟩
theorem hasB.step {m : AL Key Rat} {s : Str} (h : hasB m s) : ∀ w : Wsh, hasB (bstep m w) s
  | .after _ _ _ => h.asd.asd
  | .within _ _ _ => h.asd.asd
  | .wit _ _ => h.asd.asd
  | .frm a q => by
    show hasB (bfrm m a q) s
    unfold bfrm
    split
    · split
      · exact h.asd.put
      · exact h.asd
    · exact h.asd
noncomputable def Wsh.bells : Wsh → List Str
  | .after s u _ => [s, u]
  | .within s u _ => [s, u]
  | .wit s u => [s, u]
  | .frm s _ => [s]
theorem bstep_has {m : AL Key Rat} : ∀ {w : Wsh} {s : Str}, s ∈ w.bells → hasB (bstep m w) s
  | .after a u _, s, h => by
    rcases List.mem_cons.mp h with rfl | h
    · exact hasB.asd asd_has
    · rw [List.mem_singleton.mp h]; exact asd_has
  | .within a u _, s, h => by
    rcases List.mem_cons.mp h with rfl | h
    · exact hasB.asd asd_has
    · rw [List.mem_singleton.mp h]; exact asd_has
  | .wit a u, s, h => by
    rcases List.mem_cons.mp h with rfl | h
    · exact hasB.asd asd_has
    · rw [List.mem_singleton.mp h]; exact asd_has
  | .frm a q, s, h => by
    rw [List.mem_singleton.mp h]
    show hasB (bfrm m a q) a
    unfold bfrm
    split
    · split
      · exact hasB.put asd_has
      · exact asd_has
    · exact asd_has
theorem bfold_has {ws : List Wsh} {w : Wsh} {s : Str} (hw : w ∈ ws) (hs : s ∈ w.bells) : hasB (bfold ws) s := by
  have main : ∀ (ws : List Wsh) (m : AL Key Rat), (hasB m s ∨ w ∈ ws) → hasB (ws.foldl bstep m) s := by
    intro ws
    induction ws with
    | nil => exact fun m h => h.resolve_right (by simp)
    | cons x r ih =>
      intro m h
      refine ih _ ?_
      rcases h with h | h
      · exact .inl (h.step x)
      · rcases List.mem_cons.mp h with rfl | h
        · exact .inl (bstep_has hs)
        · exact .inr h
  exact main ws [] (.inr hw)
theorem stepsFrom_mem : ∀ {ws : List Wsh} {k : Nat} {st : Stp}, st ∈ stepsFrom k ws → ∃ w ∈ ws, ∃ j, st ∈ stepsBy j w
  | [], _, _, h => by cases h
  | w :: r, k, st, h => by
    rcases List.mem_append.mp h with h | h
    · exact ⟨w, by simp, k, h⟩
    · obtain ⟨w', hw, j, hj⟩ := stepsFrom_mem h
      exact ⟨w', List.mem_cons_of_mem _ hw, j, hj⟩
theorem stepsBy_bells : ∀ {w : Wsh} {j : Nat} {st : Stp}, st ∈ stepsBy j w → st.1 ∈ w.bells ∧ st.2.1 ∈ w.bells
  | .after s u q, j, st, h => by rw [List.mem_singleton.mp h]; simp [Wsh.bells]
  | .within s u q, j, st, h => by rw [List.mem_singleton.mp h]; simp [Wsh.bells]
  | .wit s u, j, st, h => by
    rcases List.mem_cons.mp h with rfl | h
    · simp [Wsh.bells]
    · rw [List.mem_singleton.mp h]; simp [Wsh.bells]
  | .frm s q, j, st, h => by cases h
theorem stepsBy_ne : ∀ {w : Wsh} {j : Nat} {st : Stp}, w.ok → st ∈ stepsBy j w → st.1 ≠ st.2.1
  | .after s u q, j, st, ok, h => by rw [List.mem_singleton.mp h]; exact ok.2.2.1
  | .within s u q, j, st, ok, h => by rw [List.mem_singleton.mp h]; exact ok.2.2.1.symm
  | .wit s u, j, st, ok, h => by
    rcases List.mem_cons.mp h with rfl | h
    · exact ok.2.2
    · rw [List.mem_singleton.mp h]; exact ok.2.2.symm
  | .frm s q, j, st, ok, h => by cases h
noncomputable def Wsh.bd (D X : Nat) : Wsh → Prop
  | .after _ _ q => Bd D X q
  | .within _ _ q => Bd D X q
  | .wit _ _ => True
  | .frm _ q => Bd D X q
theorem Bd.zero (D X : Nat) : Bd D X 0 := ⟨by show 1 ∣ D; exact Nat.one_dvd D, by
  have : (0 : Rat) ≤ ((X : Nat) : Rat) := by exact_mod_cast Nat.zero_le X
  grind, by exact_mod_cast Nat.zero_le X⟩
theorem Bd.neg {D X : Nat} {q : Rat} (h : Bd D X q) : Bd D X (-q) := ⟨by show q.den ∣ D; exact h.1, by have := h.2.2; grind, by have := h.2.1; grind⟩
theorem stepsBy_bd {D X : Nat} : ∀ {w : Wsh} {j : Nat} {st : Stp}, w.bd D X → st ∈ stepsBy j w → Bd D X st.2.2.1
  | .after s u q, j, st, hb, h => by rw [List.mem_singleton.mp h]; exact hb
  | .within s u q, j, st, hb, h => by rw [List.mem_singleton.mp h]; exact Bd.neg hb
  | .wit s u, j, st, hb, h => by
    rcases List.mem_cons.mp h with rfl | h
    · exact Bd.zero D X
    · rw [List.mem_singleton.mp h]; exact Bd.zero D X
  | .frm s q, j, st, hb, h => by cases h
noncomputable def mfun (m : AL Key Rat) (s : Str) : Rat := (aget m (Sum.inr s)).getD 0
noncomputable def cfun (c : AL Key Stp) (s : Str) : Option Stp := aget c (Sum.inr s)
theorem mfun_put {m : AL Key Rat} {s : Str} {q : Rat} : mfun (aput m (Sum.inr s) q) = updS (mfun m) s q := by
  funext x
  unfold mfun updS
  rw [aget_put]
  by_cases e : x = s
  · subst e; simp
  · rw [if_neg (fun z => e (Sum.inr.inj z)), if_neg e]
theorem cfun_put {m : AL Key Stp} {s : Str} {q : Stp} : cfun (aput m (Sum.inr s) q) = updS (cfun m) s (some q) := by
  funext x
  unfold cfun updS
  rw [aget_put]
  by_cases e : x = s
  · subst e; simp
  · rw [if_neg (fun z => e (Sum.inr.inj z)), if_neg e]
theorem aput_keys_eq {κ β : Type} [DecidableEq κ] {m : AL κ β} {k : κ} {v x : β} (h : aget m k = some x) : (aput m k v).map (·.1) = m.map (·.1) := by
  have ha : (m.any fun kv => decide (kv.1 = k)) = true := List.any_eq_true.mpr ⟨(k, x), aget_mem h, by simp⟩
  unfold aput
  rw [if_pos ha, List.map_map]
  refine List.map_congr_left fun y _ => ?_
  show (if y.1 = k then (y.1, v) else y).1 = y.1
  split <;> rfl
section
open PySem PySem.Spec PyProof.Rows
variable {X : Cx}
noncomputable def rLenD : List V → Hp → VK → Prop := fun xs H Q => ∃ a kvs, xs = [.ref a] ∧ Rd H a (.dK kvs) ∧ Q (.int kvs.length) H
theorem c_lenD : CallR X (.builtin "len") rLenD := by
  intro pins s σ H xs us Q I r h
  obtain ⟨a, kvs, rfl, ha, q⟩ := h
  obtain ⟨u, rfl, ru⟩ := r.one
  cases ru
  exact d_len I ha fun t s' I' => ⟨.int _, H, I', ⟨t, rfl⟩, q⟩
theorem r_lenDk {H : Hp} {Q : VK} {a : Addr} {kvs : List (Key × V)} (h : H a = some (.dK kvs)) (k : Q (.int kvs.length) H) : rLenD [.ref a] H Q := ⟨a, kvs, rfl, .inl h, k⟩
end
noncomputable def RoomW (D X : Nat) : Prop := D ≠ 0 ∧ D < 2 ^ 1000 ∧ X < 2 ^ 1000
theorem RoomW.sz {D X N : Nat} {q : Rat} (h : RoomW D X) (hN : N ≤ 1000000) (hq : Bd D (X * N) q) : Sz 8000 q := by
  obtain ⟨h1, h2, h3⟩ := h
  refine hq.sz h1 (Nat.lt_of_lt_of_le h2 (Nat.pow_le_pow_right (by decide) (by decide))) ?_
  have e1 : X * N ≤ 2 ^ 1000 * 1000000 := Nat.mul_le_mul (Nat.le_of_lt h3) hN
  have e2 : X * N * D ≤ 2 ^ 1000 * 1000000 * 2 ^ 1000 := Nat.mul_le_mul e1 (Nat.le_of_lt h2)
  exact Nat.lt_of_le_of_lt e2 (by decide +kernel)
theorem RoomW.sz1 {D X : Nat} {q : Rat} (h : RoomW D X) (hq : Bd D X q) : Sz 8000 q := h.sz (N := 1) (by decide) (by rw [Nat.mul_one]; exact hq)
theorem asd_some {κ β : Type} [DecidableEq κ] {m : AL κ β} {k : κ} {v x : β} (h : aget m k = some x) : asd m k v = m := by unfold asd; rw [h]
theorem asd_none {κ β : Type} [DecidableEq κ] {m : AL κ β} {k : κ} {v : β} (h : aget m k = none) : asd m k v = m ++ [(k, v)] := by unfold asd; rw [h]
theorem asd_len {κ β : Type} [DecidableEq κ] (m : AL κ β) (k : κ) (v : β) : (asd m k v).length ≤ m.length + 1 := by
  unfold asd
  split
  · omega
  · simp
theorem foldl_asd_len : ∀ (l : List Str) (m : AL Key Rat), (l.foldl (fun m s => asd m (Sum.inr s) 0) m).length ≤ m.length + l.length
  | [], m => by simp
  | s :: r, m => by
    have h1 := foldl_asd_len r (asd m (Sum.inr s) 0)
    have h2 := asd_len m (Sum.inr s : Key) (0 : Rat)
    rw [List.foldl_cons, List.length_cons]
    omega
theorem bstep_len (m : AL Key Rat) : ∀ w : Wsh, (bstep m w).length ≤ m.length + 2
  | .after s u _ => foldl_asd_len [s, u] m
  | .within s u _ => foldl_asd_len [s, u] m
  | .wit s u => foldl_asd_len [s, u] m
  | .frm s q => by
    have h2 := asd_len m (Sum.inr s : Key) (0 : Rat)
    show (bfrm m s q).length ≤ _
    unfold bfrm
    obtain ⟨r, e⟩ := asd_has (m := m) (k := (Sum.inr s : Key)) (v := (0 : Rat))
    rw [e]
    show (if r < q then _ else _ : AL Key Rat).length ≤ _
    split
    · have := congrArg List.length (aput_keys_eq (v := q) e)
      rw [List.length_map, List.length_map] at this
      omega
    · omega
theorem bfold_len (ws : List Wsh) : (bfold ws).length ≤ 2 * ws.length := by
  have main : ∀ (ws : List Wsh) (m : AL Key Rat), (ws.foldl bstep m).length ≤ m.length + 2 * ws.length := by
    intro ws
    induction ws with
    | nil => intro m; simp
    | cons w r ih =>
      intro m
      have h1 := ih (bstep m w)
      have h2 := bstep_len m w
      rw [List.foldl_cons, List.length_cons]
      omega
  have := main ws []
  show (ws.foldl bstep []).length ≤ _
  simpa using this
theorem bfold_take {ws : List Wsh} {i : Nat} {w : Wsh} (h : ws[i]? = some w) : bfold (ws.take (i + 1)) = bstep (bfold (ws.take i)) w := by
  have hi := (List.getElem?_eq_some_iff.mp h).1
  rw [List.take_succ_eq_append_getElem hi, bfold_snoc, (List.getElem?_eq_some_iff.mp h).2]
theorem ok_sz : ∀ {w : Wsh}, w.ok → w.pk (fun _ => True) (Sz 8000)
  | .after _ _ _, _ => ⟨trivial, trivial⟩
  | .within _ _ _, _ => ⟨trivial, trivial⟩
  | .wit _ _, _ => ⟨trivial, trivial⟩
  | .frm _ q, h => ⟨trivial, h.2.2.1, by have := h.2.2.2; unfold Sm at this; simpa using this⟩
noncomputable def OStr (v : V) : Option Str → Prop
  | none => v = .non
  | some u => v = .str u
theorem keysS {β : Type} : ∀ (c : AL Key β), (∀ x ∈ c, ∃ s : Str, x.1 = Sum.inr s) → ∃ L : List Str, c.map (·.1) = L.map Sum.inr
  | [], _ => ⟨[], rfl⟩
  | x :: r, h => by
    obtain ⟨s, e⟩ := h x (by simp)
    obtain ⟨L, eL⟩ := keysS r fun y hy => h y (List.mem_cons_of_mem _ hy)
    exact ⟨s :: L, by rw [List.map_cons, List.map_cons, e, eL]⟩
theorem nd_inr {L : List Str} (h : (L.map (Sum.inr : Str → Key)).Nodup) : L.Nodup := (List.pairwise_map.mp h).imp fun hne e => hne (by rw [e])
theorem cfun_mem {c : AL Key Stp} {L : List Str} (e : c.map (·.1) = L.map Sum.inr) (k : Str) : k ∈ L ↔ cfun c k ≠ none := by
  unfold cfun
  constructor
  · intro hk hn
    exact aget_nokey hn (by rw [e]; exact List.mem_map.mpr ⟨k, hk, rfl⟩)
  · intro hn
    cases hc : aget c (Sum.inr k) with
    | none => exact absurd hc hn
    | some st =>
      have : (Sum.inr k : Key) ∈ c.map (·.1) := List.mem_map.mpr ⟨_, aget_mem hc, rfl⟩
      rw [e] at this
      obtain ⟨s, hs, es⟩ := List.mem_map.mp this
      cases es
      exact hs
theorem pd_rev {β : Type} {R : V → β → Prop} : ∀ {xs : List V} {ds : List β}, Paired R xs ds → Paired R xs.reverse ds.reverse
  | [], [], .nil => .nil
  | _ :: _, _ :: _, .cons r t => by
    rw [List.reverse_cons, List.reverse_cons]
    exact pd_app (pd_rev t) (.cons r .nil)
theorem r_augI {σ : St} {H : Hp} {D : Ends} {i : Nat} {te : TE} {ti : TIp} {x : V} (h : σ[i]? = some (some x)) (k : te σ H fun y H1 => ti x y H1 fun z H2 => D.nx (σ.set i (some z)) H2) : tAug i te ti D σ H := ⟨x, h, k⟩
noncomputable def D0 : Nat := 27720 * 65537 * 99991 * 1000003
noncomputable def bdR2 (q : Rat) : Prop := ∃ t b : Int, 0 < b ∧ b.toNat ∣ D0 ∧ -(10 ^ 30) ≤ t ∧ t ≤ 10 ^ 30 ∧ q = Rat.divInt t b
noncomputable def Wsh.bdW2 : Wsh → Prop
  | .after _ _ q => bdR2 q
  | .within _ _ q => bdR2 q
  | .wit _ _ => True
  | .frm _ q => bdR2 q
theorem bd_div {D : Nat} {t b : Int} {X : Nat} (hb : 0 < b) (hd : b.toNat ∣ D) (ht : t.natAbs ≤ X) : Bd D X (Rat.divInt t b) := by
  have hb' : b ≠ 0 := by omega
  have h1 := den_dvd (t := t) hb'
  have h2 : (Rat.divInt t b).den ∣ b.toNat := by
    have : ((Rat.divInt t b).den : Int) ∣ (b.toNat : Int) := by rw [show ((b.toNat : Nat) : Int) = b by omega]; exact h1
    exact Int.ofNat_dvd.mp this
  have h3 := Bd.of (q := Rat.divInt t b) (M := X) (by
    rw [(low_rat (t := t) hb').1]
    exact Nat.le_trans (lowT_le hb') ht)
  exact h3.dvd (Nat.dvd_trans h2 hd)
theorem bdR2.bd {q : Rat} (h : bdR2 q) : Bd D0 (10 ^ 30) q := by
  obtain ⟨t, b, h1, h2, h3, h4, rfl⟩ := h
  exact bd_div h1 h2 (by omega)
theorem Wsh.bdW2.bd : ∀ {w : Wsh}, w.bdW2 → w.bd D0 (10 ^ 30)
  | .after _ _ _, h => bdR2.bd h
  | .within _ _ _, h => bdR2.bd h
  | .wit _ _, _ => trivial
  | .frm _ _, h => bdR2.bd h
theorem Wsh.bd.mono {D M N : Nat} (l : M ≤ N) : ∀ {w : Wsh}, w.bd D M → w.bd D N
  | .after _ _ _, h => Bd.mono h l
  | .within _ _ _, h => Bd.mono h l
  | .wit _ _, _ => trivial
  | .frm _ _, h => Bd.mono h l
theorem roomD0 : RoomW D0 (10 ^ 40) := ⟨by decide, by decide +kernel, by decide +kernel⟩
theorem dvd12 {b : Int} (h1 : 1 ≤ b) (h2 : b ≤ 12) : b.toNat ∣ D0 := by
  have all : ∀ n : Fin 12, n.val + 1 ∣ D0 := by decide +kernel
  have := all ⟨b.toNat - 1, by omega⟩
  rwa [show b.toNat - 1 + 1 = b.toNat by omega] at this
theorem ratAdd {a b c d : Int} (hb : b ≠ 0) (hd : d ≠ 0) : Rat.divInt (a * d + c * b) (b * d) = Rat.divInt a b + Rat.divInt c d := by
  rw [Rat.divInt_add_divInt _ _ hb hd]
theorem ratPos {a b : Int} (hb : 0 < b) (h : 0 < Rat.divInt a b) : 0 < a := by
  refine Int.lt_of_not_ge fun hle => ?_
  have : Rat.divInt a b ≤ 0 := by
    have h1 : Rat.divInt a b = Rat.divInt a b := rfl
    rcases Int.lt_or_eq_of_le hle with hl | hl
    · have h2 := low_pos (t := -a) (b := b) (by omega) hb
      have h3 : Rat.divInt (-a) b = -Rat.divInt a b := by rw [Rat.neg_divInt]
      rw [h3] at h2
      grind
    · rw [hl, Rat.zero_divInt]
      exact Rat.le_refl
  grind
theorem sum_snocX (l : List Stp) (st : Stp) : ((l ++ [st]).map (·.2.2.1)).sum = (l.map (·.2.2.1)).sum + st.2.2.1 := by
  rw [List.map_append, List.sum_append, List.map_cons, List.map_nil, List.sum_cons, List.sum_nil, Rat.add_zero]
theorem sz0 {q : Rat} (h : Bd D0 (10 ^ 40) q) : Sz 1100 q := h.sz (by decide) (by decide +kernel) (by decide +kernel)
theorem Sz.sm {n : Nat} {q : Rat} (h : Sz n q) : Sm n q.num ∧ Sm n (q.den : Int) := ⟨h.1, by have := h.2; unfold Sm; simpa using this⟩
noncomputable def bl (U : List Str) (j : Nat) : Str := (U[j % U.length]?).getD (Str.ofString "")
theorem aput_len {κ β : Type} [DecidableEq κ] (m : AL κ β) (k : κ) (v : β) : (aput m k v).length ≤ m.length + 1 := by
  unfold aput
  split
  · rw [List.length_map]; omega
  · simp
end L2
namespace L2
open PySem PySem.Spec PyProof.Rows
section
variable {X : Cx} {k n : Nat} {x : Str} {ps ks : List Str} {dvs : List V} {sp : Sp} {p pos : Pos} {e : Expr} {es : List Expr} {kws : List Keyword} {t tk : TA}
end
section
variable {σ : St} {H : Hp} {Q : VK} {K : PySem.W.Frag}
end
noncomputable def n3 : List TRun := [(sA, sB, Rat.divInt 1 2), (sB, sC, Rat.divInt 1 1)]
noncomputable def ts3 : List (Key × Rat) := [(Sum.inl 0, Rat.divInt 1 2), (Sum.inl 1, Rat.divInt 1 1)]
noncomputable def tk3 : Nat → Option Rat := fun k => aget (lst ts3) (Sum.inl (k : Int))
end L2
namespace L2
open PySem PySem.Spec PyProof.Rows
section
variable {X : Cx}
end
section
variable {H : Hp} {Q : VK} {u v : V} {a b : Option Rat}
end
section
variable {net : List (RunD Key)} {a b : Key} {m : Rat} {tk : Nat → Option Rat} {f : Key → Option Rat}
end
open Classical in
noncomputable def dst (n : List TRun) (a : Key) (m : Rat) : Key → Option Rat := if h : ∃ f, Falls (kn n) (aget (lst [(a, m)])) (fun _ => none) f then Classical.choose h else fun _ => none
noncomputable def gd (n : List TRun) (s z : Str) : Option Rat := if z ∈ names n then dst n (Sum.inr s) (Rat.divInt 0 1) (Sum.inr z) else none
end L2
namespace L2
open PySem PySem.Spec PyProof.Rows
noncomputable def fW (n : Nat) (acc : Addr) (Pv : Nat → List V → Hp → Prop) : Nat → Nat → List V → Hp → Prop := fun i m ys H1 => m = n - i ∧ i ≤ n ∧ ys.length ≤ i ∧ H1 acc = some (.lst ys) ∧ Pv i ys H1
noncomputable def fNext (n : Nat) (acc : Addr) (Pv : Nat → List V → Hp → Prop) (ys : List V) (i : Nat) : VK := fun y H3 => H3 acc = some (.lst ys) ∧ ∃ m', m' < n - i ∧ fW n acc Pv (i + 1) m' (ys ++ [y]) (upd H3 acc (.lst (ys ++ [y])))
noncomputable def fSkip (n : Nat) (acc : Addr) (Pv : Nat → List V → Hp → Prop) (ys : List V) (i : Nat) (H3 : Hp) : Prop := ∃ m', m' < n - i ∧ fW n acc Pv (i + 1) m' ys H3
theorem f_next {n : Nat} {acc : Addr} {Pv : Nat → List V → Hp → Prop} {ys : List V} {i : Nat} {y : V} {H3 : Hp} (hlt : i < n) (hl : ys.length ≤ i) (ha : H3 acc = some (.lst ys)) (p : Pv (i + 1) (ys ++ [y]) (upd H3 acc (.lst (ys ++ [y])))) : fNext n acc Pv ys i y H3 :=
  ⟨ha, n - (i + 1), by omega, rfl, hlt, by rw [List.length_append]; simp; exact hl, upd_same, p⟩
theorem f_skip {n : Nat} {acc : Addr} {Pv : Nat → List V → Hp → Prop} {ys : List V} {i : Nat} {H3 : Hp} (hlt : i < n) (hl : ys.length ≤ i) (ha : H3 acc = some (.lst ys)) (p : Pv (i + 1) ys H3) : fSkip n acc Pv ys i H3 :=
  ⟨n - (i + 1), by omega, rfl, hlt, by omega, ha, p⟩
section
variable {te : TE} {Q : VK} {H : Hp} {caps : St} {K : PySem.W.Frag}
end
theorem typeCall_range_3 (a b c : Value) : checkTypeCall "range" ⟨[a, b, c], []⟩ = pure () := by kernel_rfl
theorem newCall_range_3 (a b c : Value) : checkBuiltinCall "range.__new__" ⟨[.type "range", a, b, c], []⟩ = pure () := by kernel_rfl
theorem initArgs_range_3 (obj a b c : Value) : argsOk "object.__init__" ⟨[obj, a, b, c], []⟩ := by
  unfold argsOk
  rw [signature?_of (id := "object.__init__") (n := ['_', '_', 't', 'i', 'n', 'i', '_', '_']) (o := ['t', 'c', 'e', 'j', 'b', 'o']) (by kernel_rfl) F.owner_object]
  kernel_rfl
section
variable {X : Cx} {tg : Expr}
end
section
variable {σ : St} {H : Hp} {D : Ends} {K : PySem.W.Frag}
end
section
variable {X : Cx}
end
section
variable {H : Hp} {Q : VK}
end
end L2
namespace L2
open PySem PySem.Spec PyProof.Rows
section
variable {X : Cx} {a : Expr} {ta : TE}
noncomputable def tRev (ta : TE) : TE := fun σ H Q => ta σ H fun x H1 => ∃ l xs, x = .ref l ∧ H1 l = some (.lst xs) ∧ ∀ p, H1 p = none → Q (.ref p) (upd H1 p (.lst xs.reverse))
theorem r_rev {σ : St} {H : Hp} {Q : VK} (k : ta σ H fun x H1 => ∃ l xs, x = .ref l ∧ H1 l = some (.lst xs) ∧ ∀ p, H1 p = none → Q (.ref p) (upd H1 p (.lst xs.reverse))) : tRev ta σ H Q := k
end
section
variable {te : TE} {Q : VK} {H : Hp} {caps : St}
end
noncomputable def whN (Pv : St → Hp → Prop) (μ : St → Hp → Nat) (b : Nat) : St → Hp → Prop := fun σ' H' => Pv σ' H' ∧ μ σ' H' < b
theorem wh_T {Pv : St → Hp → Prop} {μ : St → Hp → Nat} {b : Nat} {tb : TS} {D : Ends} {σ : St} {H1 : Hp} (k : tb { D with nx := whN Pv μ b, ct := whN Pv μ b, bk := D.nx } σ H1) :
    ∃ N : St → Hp → Prop, (∀ σ' H', N σ' H' → ∃ m', m' < b ∧ m' = μ σ' H' ∧ Pv σ' H') ∧ tb { D with nx := N, ct := N, bk := D.nx } σ H1 := ⟨_, fun _ _ z => ⟨_, z.2, rfl, z.1⟩, k⟩
theorem r_while {c : TT} {tb : TS} {D : Ends} {σ : St} {H : Hp} (Pv : St → Hp → Prop) (μ : St → Hp → Nat) (h0 : Pv σ H)
    (hs : ∀ σ H, Pv σ H → c σ H fun b H1 => if b = true then ∃ N : St → Hp → Prop, (∀ σ' H', N σ' H' → ∃ m', m' < μ σ H ∧ m' = μ σ' H' ∧ Pv σ' H') ∧ tb { D with nx := N, ct := N, bk := D.nx } σ H1 else D.nx σ H1) : tWhile c tb D σ H := by
  refine ⟨fun m σ H => m = μ σ H ∧ Pv σ H, ⟨_, rfl, h0⟩, ?_⟩
  rintro m σ H ⟨rfl, p⟩
  exact hs σ H p
end L2
namespace L2
open PySem PySem.Spec PyProof.Rows
theorem rv_nolen : typeLookup (.type "list_reverseiterator") "__len__" = pure none := by rw [typeLookup_type, builtinLookup_eq_fast]; kernel_rfl
theorem rv_hint : typeLookup (.type "list_reverseiterator") "__length_hint__" = pure (some (.builtin "list_reverseiterator.__length_hint__")) := by rw [typeLookup_type, builtinLookup_eq_fast]; kernel_rfl
theorem rv_split : splitId "list_reverseiterator.__length_hint__" = some ("list_reverseiterator", "__length_hint__") := by decide +kernel
theorem rv_self : isSubtype (.type "list_reverseiterator") (.type "list_reverseiterator") = pure true := by rw [isSubtype_type]; kernel_rfl
section
variable {prog : Program} {w : World} {A : Around} {E : Value → Shared → Prop} {s : Shared} {r : Addr}
theorem rv_room {Q : Bool → Shared → Prop} (hT : s.TypeIs (.ref r) "list_reverseiterator") (h : Q false s) : wpAny (model prog w) A (Builtin.List.listLengthHint (.ref r)) Q E s := by
  unfold Builtin.List.listLengthHint
  refine wpAny_bind (wpAny_specialOf hT rv_nolen ?_)
  dsimp only
  rw [if_neg (by decide), if_neg (by decide)]
  refine wpAny_bind (wpAny_specialOf hT rv_hint ?_)
  dsimp only
  rw [rv_split]
  dsimp only
  refine wpAny_bind (wpAny_isInstance hT rv_self ?_)
  rw [if_neg (by simp)]
  rw [if_pos (by decide +kernel), if_neg (by decide)]
  exact wpAny_pure h
theorem rv_fill {R : Result → Shared → Prop} {l S : Addr} {items : Array Value} {n : Nat} (hh : A.handled = none) (hit : s.heap.IsRevIter r l ((items.size : Int) - 1)) (hl : s.heap.IsList l items) (hne : l ≠ r) (hz : items.size ≤ sizeLine) (hr : S ≠ r) (hL : S ≠ l)
    (hS : s.heap.get? S = some { cls := .type "list", data := .seq #[] n })
    (k : ∀ h' tk acc c, (∀ b o, b ≠ S → b ≠ r → s.heap.get? b = some o → h'.get? b = some o) → h'.get? S = some { cls := .type "list", dict := none, data := .seq acc c, slots := #[] } → ItemsOf (fun i v => items[items.size - 1 - i]? = some v) acc items.size → R (.ok (.ret .none)) { s with heap := h', toks := tk }) :
    wpAny (model prog w) A.in1 (Builtin.List.listExtendWith (.ref S) (.ref r) .none)
      (fun fin s' => match fin with | .done f => R (.ok f) s' | .again c' => c'.quiet = true ∧ codeAny (model prog w) A c' R s') (fun e s' => R (.error e) s') s := by
  have W := (Walks.listRev (prog := prog) (w := w) (A := A.in1) hh r l hne items).toS
  unfold Builtin.List.listExtendWith
  refine wpAny_bind (wpAny_typeOf hit.typeIs ?_)
  rw [if_neg (by simp [Builtin.List.listSameRef, hr])]
  refine wpAny_bind (wpAny_pyIter_revIter hit ?_)
  refine wpAny_bind (wpAny_holding (rv_room hit.typeIs ?_))
  rw [if_neg (by decide +kernel)]
  refine wpAny_pure ⟨plainId_quiet F.plain_extend_loop _, codeAny_extend_loopS W hz S (by simp [hr, hL]) .none items.size 0 _ #[] n rfl (Nat.zero_le _) ⟨Nat.zero_le _, by simpa using hit, hl⟩ hS (ItemsOf.nil _) fun s' acc c hm hS' hacc => ?_⟩
  rw [Moved.eq_with hm]
  exact k s'.heap s'.toks acc c (fun b o b1 b2 e => hm.heap b o (by simp [b1, b2]) e) hS' hacc
theorem call_list_rv {Q : Value → Shared → Prop} {l : Addr} {items : Array Value} (hh : A.handled = none) (hit : s.heap.IsRevIter r l ((items.size : Int) - 1)) (hl : s.heap.IsList l items) (hne : l ≠ r) (hz : items.size ≤ sizeLine)
    (k : ∀ h' tk acc c, (∀ b o, b ≠ r → s.heap.get? b = some o → h'.get? b = some o) → h'.get? s.heap.objs.size = some { cls := .type "list", dict := none, data := .seq acc c, slots := #[] } → ItemsOf (fun i v => items[items.size - 1 - i]? = some v) acc items.size → Q (.ref s.heap.objs.size) { s with heap := h', toks := tk }) :
    wpAny (model prog w) A (call (.type "list") [.ref r]) Q E s := by
  obtain ⟨o1, g1, _⟩ := id hit
  obtain ⟨o2, g2, _⟩ := id hl
  have l1 := Heap.lt_size g1
  have l2 := Heap.lt_size g2
  refine callType_codes (Q₁ := fun obj s₁ => obj = .ref s.heap.objs.size ∧ s₁ = { s with heap := s.heap.push { cls := .type "list", data := .seq #[] } }) F.called_list (F.typeCall_list_1 _) F.entry_list_init (code_list_new _ ⟨rfl, rfl⟩) ?_
  rintro _ _ ⟨rfl, rfl⟩
  have g0 : (s.heap.push { cls := .type "list", data := .seq #[] }).get? s.heap.objs.size = some { cls := .type "list", data := .seq #[] } := Heap.get?_push_size _ rfl
  have kp : ∀ b o, s.heap.get? b = some o → (s.heap.push { cls := .type "list", data := .seq #[] }).get? b = some o := fun b o e => Heap.get?_push_of_some _ e
  refine ⟨⟨_, g0, rfl⟩, F.args_list_init_2 _ _, ?_⟩
  generalize s.heap.push { cls := .type "list", data := .seq #[] } = h0 at g0 kp ⊢
  show wpAny _ _ (Builtin.List.listItems (.ref s.heap.objs.size) >>= fun old => Builtin.List.listUpdate (.ref s.heap.objs.size) (fun _ => #[]) >>= fun _ => letGo old.toList.reverse >>= fun _ => Builtin.List.listExtendWith (.ref s.heap.objs.size) (.ref r) .none) _ _ _
  refine wpAny_bind ?_
  unfold Builtin.List.listItems
  refine wpAny_bind (wpAny_seqItems g0 rfl (wpAny_pure (wpAny_bind (wpAny_updateSeq g0 rfl (wpAny_bind (wpAny_letGo ?_))))))
  have g1' := Heap.get?_update_self (Obj.mapSeq (fun _ => (#[] : Array Value))) g0 rfl
  have kp1 : ∀ b o, b ≠ s.heap.objs.size → s.heap.get? b = some o → (h0.update s.heap.objs.size (Obj.mapSeq (fun _ => (#[] : Array Value)))).get? b = some o := fun b o hb e => (Heap.get?_update_other _ _ (Ne.symm hb)).trans (kp b o e)
  generalize h0.update s.heap.objs.size (Obj.mapSeq (fun _ => (#[] : Array Value))) = h1 at g1' kp1 ⊢
  have n1 : s.heap.objs.size ≠ r := Nat.ne_of_gt l1
  have n2 : s.heap.objs.size ≠ l := Nat.ne_of_gt l2
  refine rv_fill (A := A.in1) hh (hit.at fun o e => kp1 _ _ (Ne.symm n1) e) (hl.at fun o e => kp1 _ _ (Ne.symm n2) e) hne hz n1 n2 g1' fun h' tk acc c hk hD hacc => ?_
  exact ⟨rfl, k h' tk acc c (fun b o hb e => hk b o (Nat.ne_of_lt (Heap.lt_size e)) hb (kp1 b o (Nat.ne_of_lt (Heap.lt_size e)) e)) hD hacc⟩
end
theorem rev_vals {vs : List V} {its : List Value} {acc : Array Value} (r : Vals vs its) (h : ItemsOf (fun i v => its.toArray[its.toArray.size - 1 - i]? = some v) acc its.toArray.size) : Vals vs.reverse acc.toList := by
  have e : acc.toList = its.reverse := by
    apply List.ext_getElem?
    intro j
    have hs : acc.size = its.length := by
      have := h.1
      simpa using this
    by_cases hj : j < acc.size
    · have z := h.2 j acc[j] (by simp [hj])
      rw [List.size_toArray, List.getElem?_toArray] at z
      rw [List.getElem?_reverse (by omega), z]
      simp [hj]
    · rw [List.getElem?_eq_none (by simp; omega), List.getElem?_eq_none (by simp; omega)]
  rw [e]
  exact r.reverse
theorem pe_lrev {X : Cx} {a : Expr} {ta : TE} {p p2 pos pos2 : Pos} (hc : X.calm = true) (hgl : Gl X "list") (hml : X.mg "list" = none) (hg : Gl X "reversed") (hm : X.mg "reversed" = none) (ha : PE X a ta)
    (he : starEach [.Call (.Name "reversed" p2) [a] [] pos2] X.env = [(false, eval (.Call (.Name "reversed" p2) [a] [] pos2) X.env)] := by rfl) (hs : starEach [a] X.env = [(false, eval a X.env)] := by rfl) :
    PE X (.Call (.Name "list" p) [.Call (.Name "reversed" p2) [a] [] pos2] [] pos) (tRev ta) := by
  intro pins s σ H Q I h
  refine wpAny_Call_Name_kw (ld_blt I hgl hml bt_list ?_ (by decide) (by decide))
  refine PyProof.Rows.callWith_type1 ?_ he rfl
  rw [he]
  show wpAny _ _ (spliced ((false, eval (.Call (.Name "reversed" p2) [a] [] pos2) X.env) :: backTo pos [])) _ _ s
  refine Calls.spliced_cons ?_
  refine Call_ (ld_blt I hg hm bt_reversed (PyProof.Rows.callWith_type1 ?_ hs rfl))
  rw [hs]
  show wpAny _ _ (spliced ((false, eval a X.env) :: backTo pos2 [])) _ _ s
  refine Calls.spliced_cons (thn (ha pins s σ H _ I h) fun v s1 ⟨x, H1, I1, r1, l, xs, e, hx, q⟩ => ?_)
  subst e
  cases r1
  refine Calls.spliced_nil ?_
  obtain ⟨its, r, ht, hz⟩ := I1.list (SqL.of hx)
  have hlen := r.length
  refine call_reversed_list ht.isList ?_
  refine Calls.spliced_nil ?_
  have hll : l < s1.heap.objs.size := by
    obtain ⟨o, g, _⟩ := ht.isList
    exact Heap.lt_size g
  refine call_list_rv (I.ok.hd hc) (l := l) (items := its.toArray) ⟨_, Heap.get?_push_size _ rfl, rfl, rfl⟩ (ht.isList.at fun o e => Heap.get?_push_of_some _ e) (Nat.ne_of_lt hll) (by rw [List.size_toArray]; omega) fun h' tk acc c hk hD hacc => ?_
  have hv := rev_vals r hacc
  refine ⟨.ref _, _, I1.laid (t' := tk) (a := (s1.heap.push (revObj l ((its.toArray.size : Int) - 1))).objs.size) (o := .lst xs.reverse) (fun b o e => hk b o (Nat.ne_of_lt (Heap.lt_size e)) (Heap.get?_push_of_some _ e)) (by rw [Heap.size_push]; exact Nat.le_succ _) ?_, rfl, q _ (I1.hok.fresh (by rw [Heap.size_push]; exact Nat.le_succ _))⟩
  exact ⟨by rw [List.length_reverse]; exact hz, _, c, hv, by rw [Array.toArray_toList]; exact hD⟩
end L2
namespace L2
open PySem PySem.Spec PyProof.Rows
section
variable {net : List (RunD Key)} {push : Key → Option Rat} {tk : Nat → Option Rat}
end
noncomputable def but (ks : List Nat) (j : Nat) : List Nat := ks.filter fun k => decide (k ≠ j)
noncomputable def n4 : List TRun := [(sA, sB, Rat.divInt 1 1), (sB, sA, Rat.divInt 1 1)]
section
variable {X : Cx} {scope : Scope} {caps : List (Str × Addr)} {N : List Str} {C : Addr} {s0 : Shared} {H0 : Hp} {ex : List Addr}
end
section
variable {te : TE} {Q : VK} {H : Hp} {caps : St} {K : PySem.W.Frag} {σ : St}
noncomputable def ittK (K : PySem.W.Frag) (R : It → Hp → Prop) : VK := fun x H1 => ∃ a, x = .ref a ∧ (∃ xs, SqT K H1 a xs) ∧ R (Itt K a) H1
theorem r_iTup {tl : TE} {R : It → Hp → Prop} (k : tl σ H (ittK K R)) : iTup K tl σ H R := k
end
end L2
namespace L2
open PySem PySem.Spec PyProof.Rows
mutual
theorem Den.inj {H : Hp} : ∀ (d e : Dt) {x : V}, Den H d x → Den H e x → d = e
  | .tup ds, .tup es, x, h1, h2 => by
    obtain ⟨p, vs, rfl, a, b⟩ := h1
    obtain ⟨q, ws, e1, c, d⟩ := h2
    cases e1
    rw [a] at c
    cases c
    rw [DenL.inj ds es b d]
  | .lst ds, .lst es, x, h1, h2 => by
    obtain ⟨p, vs, rfl, a, b⟩ := h1
    obtain ⟨q, ws, e1, c, d⟩ := h2
    cases e1
    rw [a] at c
    cases c
    rw [DenL.inj ds es b d]
  | .tup ds, .lst es, x, h1, h2 => by
    obtain ⟨p, vs, rfl, a, b⟩ := h1
    obtain ⟨q, ws, e1, c, d⟩ := h2
    cases e1
    rw [a] at c
    cases c
  | .lst ds, .tup es, x, h1, h2 => by
    obtain ⟨p, vs, rfl, a, b⟩ := h1
    obtain ⟨q, ws, e1, c, d⟩ := h2
    cases e1
    rw [a] at c
    cases c
  | .non, e, x, h1, h2 => by
    have h1 : x = .non := h1
    subst h1
    cases e <;> first | rfl | (have h2 : V.non = _ := h2; cases h2) | (obtain ⟨_, _, z, _⟩ := h2; cases z)
  | .bl b, e, x, h1, h2 => by
    have h1 : x = .bl b := h1
    subst h1
    cases e <;> first | (have h2 : V.bl b = _ := h2; cases h2; rfl) | (have h2 : V.bl b = _ := h2; cases h2; done) | (obtain ⟨_, _, z, _⟩ := h2; cases z)
  | .int b, e, x, h1, h2 => by
    have h1 : x = .int b := h1
    subst h1
    cases e <;> first | (have h2 : V.int b = _ := h2; cases h2; rfl) | (have h2 : V.int b = _ := h2; cases h2; done) | (obtain ⟨_, _, z, _⟩ := h2; cases z)
  | .str b, e, x, h1, h2 => by
    have h1 : x = .str b := h1
    subst h1
    cases e <;> first | (have h2 : V.str b = _ := h2; cases h2; rfl) | (have h2 : V.str b = _ := h2; cases h2; done) | (obtain ⟨_, _, z, _⟩ := h2; cases z)
  | .tup ds, .non, x, h1, h2 => by obtain ⟨p, vs, rfl, _⟩ := h1; have h2 : V.ref p = _ := h2; cases h2
  | .tup ds, .bl _, x, h1, h2 => by obtain ⟨p, vs, rfl, _⟩ := h1; have h2 : V.ref p = _ := h2; cases h2
  | .tup ds, .int _, x, h1, h2 => by obtain ⟨p, vs, rfl, _⟩ := h1; have h2 : V.ref p = _ := h2; cases h2
  | .tup ds, .str _, x, h1, h2 => by obtain ⟨p, vs, rfl, _⟩ := h1; have h2 : V.ref p = _ := h2; cases h2
  | .lst ds, .non, x, h1, h2 => by obtain ⟨p, vs, rfl, _⟩ := h1; have h2 : V.ref p = _ := h2; cases h2
  | .lst ds, .bl _, x, h1, h2 => by obtain ⟨p, vs, rfl, _⟩ := h1; have h2 : V.ref p = _ := h2; cases h2
  | .lst ds, .int _, x, h1, h2 => by obtain ⟨p, vs, rfl, _⟩ := h1; have h2 : V.ref p = _ := h2; cases h2
  | .lst ds, .str _, x, h1, h2 => by obtain ⟨p, vs, rfl, _⟩ := h1; have h2 : V.ref p = _ := h2; cases h2
theorem DenL.inj {H : Hp} : ∀ (ds es : List Dt) {xs : List V}, DenL H ds xs → DenL H es xs → ds = es
  | [], [], xs, _, _ => rfl
  | [], e :: es, xs, h1, h2 => by
    have h1 : xs = [] := h1
    subst h1
    obtain ⟨_, _, z, _⟩ := h2
    cases z
  | d :: ds, [], xs, h1, h2 => by
    have h2 : xs = [] := h2
    subst h2
    obtain ⟨_, _, z, _⟩ := h1
    cases z
  | d :: ds, e :: es, xs, h1, h2 => by
    obtain ⟨v, r, rfl, a, b⟩ := h1
    obtain ⟨v', r', z, a', b'⟩ := h2
    cases z
    rw [Den.inj d e a a', DenL.inj ds es b b']
end
noncomputable def vOf : Value → V
  | .bool b => .bl b
  | .int i _ => .int i
  | .str s _ => .str s
  | .ref a => .ref a
  | _ => .non
theorem den_vOf {H : Hp} {d : Dt} {x : V} {u : Value} (h : Den H d x) (r : RelV x u) : x = vOf u := by
  cases d with
  | non =>
    cases (show x = .non from h)
    cases r
    rfl
  | bl b =>
    cases (show x = .bl b from h)
    cases r
    rfl
  | int b =>
    cases (show x = .int b from h)
    obtain ⟨t, rfl⟩ := r
    rfl
  | str b =>
    cases (show x = .str b from h)
    obtain ⟨t, rfl⟩ := r
    rfl
  | tup ds =>
    obtain ⟨p, _, rfl, _⟩ := h
    cases r
    rfl
  | lst ds =>
    obtain ⟨p, _, rfl, _⟩ := h
    cases r
    rfl
theorem rel_den {H : Hp} {d e : Dt} {x y : V} {u : Value} (h1 : Den H d x) (h2 : Den H e y) (r1 : RelV x u) (r2 : RelV y u) : x = y := (den_vOf h1 r1).trans (den_vOf h2 r2).symm
open Classical in
noncomputable def inU (H : Hp) (d : Dt) (u : Value) : Bool := decide (∃ x e, RelV x u ∧ Den H e x ∧ deq e d = true)
open Classical in
theorem inU_of {H : Hp} {d e : Dt} {x : V} {u : Value} (r : RelV x u) (h : Den H e x) : inU H d u = deq e d := by
  unfold inU
  cases c : deq e d with
  | true => exact decide_eq_true ⟨x, e, r, h, c⟩
  | false =>
    refine decide_eq_false fun ⟨y, e', r', h', c'⟩ => ?_
    have := rel_den h h' r r'
    subst this
    rw [Den.inj e e' h h', c'] at c
    cases c
theorem any_inU {H : Hp} {d : Dt} : ∀ {ds : List Dt} {vs : List V} {us : List Value}, DenL H ds vs → Vals vs us → us.any (inU H d) = ds.any fun e => deq e d
  | [], vs, us, h, r => by
    have h : vs = [] := h
    subst h
    cases r
    rfl
  | e :: ds, vs, us, h, r => by
    obtain ⟨v, w, rfl, a, b⟩ := h
    cases r with
    | cons r1 r2 => rw [List.any_cons, List.any_cons, inU_of r1 a, any_inU b r2]
noncomputable def rInD (neg : Bool) : R2 := fun x y H Q => ∃ p vs d ds, y = .ref p ∧ H p = some (.lst vs) ∧ Den H d x ∧ DenL H ds vs ∧ depL ds ≤ 50 ∧ Q (.bl (if neg then !(ds.any fun e => deq e d) else ds.any fun e => deq e d)) H
theorem in_eqAt {X : Cx} {pins : List (Addr × Obj)} {σ : St} {H : Hp} {s : Shared} (I : Inv X pins σ H s) (hu : X.A.units + 64 < cLine) {d : Dt} {x : V} {v : Value} (hd : Den H d x) (rx : RelV x v) : ∀ {ds : List Dt} {vs : List V} {us : List Value}, DenL H ds vs → Vals vs us → depL ds ≤ 50 → ∀ u ∈ us, SeqAt.EqAt X.A.in1 s u v (inU H d u)
  | [], vs, us, h, r, _ => by
    have h : vs = [] := h
    subst h
    cases r
    exact fun u hu => by cases hu
  | e :: ds, vs, us, h, r, hl => by
    obtain ⟨w, ws, rfl, a, b⟩ := h
    cases r with
    | cons r1 r2 =>
      have hl' : max (dep e) (depL ds) ≤ 50 := hl
      intro u hm
      rcases List.mem_cons.mp hm with rfl | hm
      · rw [inU_of r1 a]
        exact eqAt_D I e d a hd r1 rx (by show X.A.units + 1 + dep e < cLine; omega)
      · exact in_eqAt I hu hd rx b r2 (by omega) u hm
theorem op_notInD {X : Cx} (hu : X.A.units + 64 < cLine) : OpR X (compareOp .NotIn) (rInD true) := by
  intro pins s σ H x y v u Q I rx ry h
  obtain ⟨p, vs, d, ds, rfl, hp, hd, hds, hl, q⟩ := h
  cases ry
  obtain ⟨its, r, t⟩ := lst_at I hp
  refine SeqAt.notIn_listAt (inU H d) t (fun w hw => in_eqAt I hu hd rx hds r hl w (by simpa using hw)) ⟨.bl _, H, I, rfl, ?_⟩
  rw [show its.toArray.any (inU H d) = its.any (inU H d) by simp, any_inU hds r]
  exact q
end L2
namespace L2
open PySem PySem.Spec PyProof.Rows
section
variable {X : Cx}
end
section
variable {σ : St} {H : Hp} {D : Ends} {K : PySem.W.Frag}
theorem r_forRp {lo : Int} {n : Nat} {g : TG} {tb : TS} (Pv : Nat → St → Hp → Prop) (h0 : Pv 0 σ H)
    (hs : ∀ (P' : Nat → St → Hp → Prop) (rt : VK) (bk : St → Hp → Prop), (∀ i σ H, Pv i σ H → P' i σ H) → ∀ i σ H, i < n → Pv i σ H → g (.int (lo + i)) σ H fun σ2 H2 => tb ⟨P' (i + 1), rt, bk, P' (i + 1)⟩ σ2 H2) (hd : ∀ σ H, Pv n σ H → D.nx σ H) : forK g tb D σ (Itr lo n) H := r_forR Pv h0 (hs Pv D.rt D.nx fun _ _ _ h => h) hd
theorem r_forLp {a : Addr} {xs : List V} {g : TG} {tb : TS} (Pv : Nat → St → Hp → Prop) (h0 : Pv 0 σ H) (hl : ∀ i σ H, i ≤ xs.length → Pv i σ H → SqL K H a xs)
    (hs : ∀ (P' : Nat → St → Hp → Prop) (rt : VK) (bk : St → Hp → Prop), (∀ i σ H, Pv i σ H → P' i σ H) → ∀ i x σ H, xs[i]? = some x → Pv i σ H → g x σ H fun σ2 H2 => tb ⟨P' (i + 1), rt, bk, P' (i + 1)⟩ σ2 H2) (hd : ∀ σ H, Pv xs.length σ H → D.nx σ H) : forK g tb D σ (Itl K a) H := r_forL Pv h0 hl (hs Pv D.rt D.nx fun _ _ _ h => h) hd
end
end L2
namespace L2
open PySem PySem.Spec PyProof.Rows
section
variable {X : Cx}
noncomputable def rListD : List V → Hp → VK → Prop := fun vs H Q => ∃ (a : Addr) (kvs : List (Key × V)) (xs : List Str), vs = [.ref a] ∧ H a = some (.dK kvs) ∧ kvs.map (·.1) = xs.map Sum.inr ∧ ∀ l, H l = none → Q (.ref l) (upd H l (.lst (xs.map V.str)))
theorem strs_rel : ∀ {us : List Value} {xs : List Str}, xs.length = us.length → (∀ (i : Nat) (v : Value), us[i]? = some v → ∃ x t, xs[i]? = some x ∧ v = .str x t) → Vals (xs.map V.str) us
  | [], [], _, _ => .nil
  | u :: us, x :: xs, hl, h => by
    obtain ⟨y, t, e1, rfl⟩ := h 0 u rfl
    cases e1
    exact .cons ⟨t, rfl⟩ (strs_rel (by simpa using hl) fun i v e => h (i + 1) v e)
theorem c_listD (hc : X.calm = true) : CallR X (.type "list") rListD := by
  intro pins s σ H vs us Q I r h
  obtain ⟨a, kvs, xs, rfl, ha, hk, q⟩ := h
  obtain ⟨u, rfl, ru⟩ := r.one
  cases ru
  obtain ⟨z, hd, vs', rel, dd⟩ := dk_of I.hok ha
  obtain ⟨ep, dd⟩ := dd.dictAt
  refine PySem.W.kdl_call (PySem.W.kdl_dict (knd := mixKind X.prog X.w) (kvs := vs') (ep := ep) hd) (I.ok.hd hc) dd (by rw [← rel.length]; exact z) fun h' tk acc c kp g hacc => ?_
  have hxl : xs.length = acc.toList.length := by
    have h1 := congrArg List.length hk
    rw [List.length_map, List.length_map] at h1
    have h2 : acc.toList.length = vs'.length := by simpa using hacc.1
    have h3 := rel.length
    omega
  have hv : Vals (xs.map V.str) acc.toList := strs_rel hxl fun i v e => by
    obtain ⟨k', x', e1, e2⟩ := hacc.2 i v (by simpa using e)
    have e3 : (vs'.map (·.1))[i]? = some k' := by rw [List.getElem?_map, e1]; rfl
    rw [← rel.keys, hk, List.getElem?_map] at e3
    cases e4 : xs[i]? with
    | none => rw [e4] at e3; cases e3
    | some y =>
      rw [e4] at e3
      have e5 : Sum.inr y = k' := Option.some.inj e3
      subst e5
      obtain ⟨t, rfl⟩ := key_rel e2
      exact ⟨y, t, rfl, rfl⟩
  refine ⟨.ref s.heap.objs.size, _, I.laid (h' := h') (a := s.heap.objs.size) (o := .lst (xs.map V.str)) (t' := tk) kp (Nat.le_refl _) ⟨?_, acc.toList, c, hv, by rw [Array.toArray_toList]; exact g⟩, rfl, q _ (I.hok.fresh (Nat.le_refl _))⟩
  have h1 := congrArg List.length hk
  rw [List.length_map, List.length_map] at h1
  rw [List.length_map, ← h1]
  exact z
theorem op_notIn_seqc {scope : Scope} {caps : List (Str × Addr)} {N : List Str} {C : Addr} {s0 : Shared} {H0 : Hp} {ex : List Addr} : OpR (cxComp X scope caps N C s0 H0 ex) (compareOp .NotIn) (rIn X.K true) := op_notIn_seq
end
section
variable {te : TE} {Q : VK} {H : Hp} {caps : St}
theorem r_compDT {c : TT} {a : Addr} {o : Obj} {kvs : List (Key × V)} (hn : kvs.length ≤ 1000) (Pv : Addr → Nat → List V → Hp → Prop) (h0 : ∀ acc, H acc = none → Pv acc 0 [] (upd H acc (.lst []))) (hl' : ∀ acc i ys H1, H acc = none → i ≤ kvs.length → Pv acc i ys H1 → H1 a = some (.frz o (.dK kvs)))
    (hs : ∀ acc i ys H1 k v, H acc = none → kvs[i]? = some (k, v) → ys.length ≤ i → H1 acc = some (.lst ys) → Pv acc i ys H1 → c (some (kV k) :: caps) H1 fun b H3 => if b = true then te (some (kV k) :: caps) H3 (fNext kvs.length acc (Pv acc) ys i) else fSkip kvs.length acc (Pv acc) ys i H3)
    (hd : ∀ acc ys H1, H acc = none → H1 acc = some (.lst ys) → ys.length ≤ kvs.length → Pv acc kvs.length ys H1 → Q (.ref acc) H1) : compK te (some c) (gName 0) (List.replicate 1 none) caps Q (Itd a o kvs) H := by
  intro acc hacc
  refine ⟨fW kvs.length acc (Pv acc), ⟨kvs.length, by simp, Nat.zero_le _, Nat.le_refl _, upd_same, h0 acc hacc⟩, ?_⟩
  rintro i m ys H1 ⟨rfl, hi, hl, ha, p⟩
  have q := hl' acc i ys H1 hacc hi p
  refine ⟨ha, ?_⟩
  by_cases hlt : i < kvs.length
  · refine .inr ⟨small1000 (by omega), ⟨q, hlt⟩, fun us x H' hu y => ?_⟩
    obtain ⟨rfl, k, v, e, rfl⟩ := y
    obtain ⟨o, rfl⟩ := len1 hu
    exact ⟨⟨[some (kV k)], rfl, rfl⟩, hs acc i ys _ k v hacc e hl ha p⟩
  · have e : i = kvs.length := by omega
    subst e
    exact .inl ⟨⟨q, Nat.le_refl _⟩, hd acc ys H1 hacc ha hl p⟩
theorem r_forTu {K : PySem.W.Frag} {a : Addr} {xs : List V} {g : TG} {tb : TS} {D : Ends} {σ : St} (Pv : Nat → St → Hp → Prop) (h0 : Pv 0 σ H) (hl : ∀ i σ H, i ≤ xs.length → Pv i σ H → SqT K H a xs)
    (hs : ∀ i x σ H, xs[i]? = some x → Pv i σ H → g x σ H fun σ2 H2 => tb ⟨Pv (i + 1), D.rt, D.nx, Pv (i + 1)⟩ σ2 H2) (hd : ∀ σ H, Pv xs.length σ H → D.nx σ H) : forK g tb D σ (Itt K a) H := for_tup Pv h0 hl hs hd
end
section
variable {X : Cx} {tg : Expr} {scope : Scope} {tn names : List Str} {is : List Nat} {elt iter : Expr} {ifs : List Expr} {pos : Pos} {tl te : TE} {tc : Option TT} {g : TG}
end
theorem len2 {us : St} (h : us.length = 2) : ∃ o p, us = [o, p] := by
  match us, h with
  | [o, p], _ => exact ⟨o, p, rfl⟩
section
variable {te : TE} {Q : VK} {H : Hp} {caps : St} {K : PySem.W.Frag}
theorem r_compPT {c : TT} {a : Addr} {xs : List V} (hn : xs.length ≤ 1000) (Pv : Addr → Nat → List V → Hp → Prop) (h0 : ∀ acc, H acc = none → Pv acc 0 [] (upd H acc (.lst []))) (hl' : ∀ acc i ys H1, H acc = none → i ≤ xs.length → Pv acc i ys H1 → SqL K H1 a xs)
    (hs : ∀ acc i ys H1 x, H acc = none → xs[i]? = some x → ys.length ≤ i → H1 acc = some (.lst ys) → Pv acc i ys H1 → ∃ p u v, x = .ref p ∧ H1 p = some (.tup [u, v]) ∧ c (some u :: some v :: caps) H1 fun b H3 => if b = true then te (some u :: some v :: caps) H3 (fNext xs.length acc (Pv acc) ys i) else fSkip xs.length acc (Pv acc) ys i H3)
    (hd : ∀ acc ys H1, H acc = none → H1 acc = some (.lst ys) → ys.length ≤ xs.length → Pv acc xs.length ys H1 → Q (.ref acc) H1) : compK te (some c) (gTup K 2 (gCons (gName 0) (gCons (gName 1) gNil))) (List.replicate 2 none) caps Q (Itl K a) H := by
  intro acc hacc
  refine ⟨fW xs.length acc (Pv acc), ⟨xs.length, by simp, Nat.zero_le _, Nat.le_refl _, upd_same, h0 acc hacc⟩, fun i m ys H1 hW => ?_⟩
  obtain ⟨rfl, hi, hl, ha, p⟩ := hW
  have q := hl' acc i ys H1 hacc hi p
  refine ⟨ha, ?_⟩
  rcases Nat.lt_or_ge i xs.length with hlt | hge
  · refine .inr ⟨small1000 (Nat.le_trans hl (by omega)), ⟨xs, xs[i], q, by simp [hlt]⟩, fun us x H' hu z => ?_⟩
    obtain ⟨rfl, z⟩ := z
    obtain ⟨o1, o2, rfl⟩ := len2 hu
    obtain ⟨b, u, v, rfl, hb, k⟩ := hs acc i ys H' x hacc (z xs q) hl ha p
    exact r_gtup2 hb ⟨u, [v], rfl, v, [], rfl, rfl, ⟨[some u, some v], rfl, rfl⟩, k⟩
  · cases (Nat.le_antisymm hi hge : i = xs.length)
    exact .inl ⟨⟨xs, q, Nat.le_refl _⟩, hd acc ys H1 hacc ha hl p⟩
end
theorem pg_tupc {X : Cx} {scope : Scope} {caps : List (Str × Addr)} {N : List Str} {C : Addr} {s0 : Shared} {H0 : Hp} {ex : List Addr} {es : List Expr} {k : Nat} {t : TGs} {n : Nat} {pos : Pos} (hc : (cxComp X scope caps N C s0 H0 ex).calm = true) (h : PGs (cxComp X scope caps N C s0 H0 ex) es t)
    (hn : (assignEach es (cxComp X scope caps N C s0 H0 ex).env).length = n := by rfl) (hst : (assignEach es (cxComp X scope caps N C s0 H0 ex).env).findIdx? (·.1) = none := by rfl) : PG (cxComp X scope caps N C s0 H0 ex) (.Tuple es k pos) (gTup X.K n t) := pg_tup hc h hn hst
theorem r_sd2 {H : Hp} {Q : VK} {a : Addr} {kvs : List (Key × V)} {m : AL Key Rat} {v : V} {c : Key} {q : Rat} (hk : H a = some (.dK kvs)) (kq : KQ FrQ H kvs m) (fv : FrQ H v q) (hl : kvs.length ≤ 1000)
    (k : ∀ u G kv', G a = some (.dK kv') → KQ FrQ G kv' (asd m c q) → TK H G → Kp a H G → Q u G) : rSetDef (.ref a) [kV c, v] H Q := by
  refine r_setdef hk hl (fun u eu => ?_) (fun eu => ?_)
  · refine k u H kvs hk ?_ (TK.refl _) (Kp.refl _ _)
    rcases kq.val (k := c) with ⟨e1, _⟩ | ⟨v1, r1, e1, e2, f1⟩
    · rw [e1] at eu; cases eu
    · rw [asd_some e2]; exact kq
  · have tk : TK H (upd H a (.dK (kvs ++ [(c, v)]))) := TK.dic hk
    refine k v _ _ upd_same ?_ tk Kp.upd
    rcases kq.val (k := c) with ⟨_, e2⟩ | ⟨v1, r1, e1, e2, f1⟩
    · rw [asd_none e2]
      exact Pd.snoc (kq.imp fun v b f => f.tk tk) ⟨rfl, fv.tk tk⟩
    · rw [e1] at eu; cases eu
theorem bfrm_law (m : AL Key Rat) (z : Str) (q : Rat) : (if (aget m (Sum.inr z)).getD 0 < q then asd (aput m (Sum.inr z) q) (Sum.inr z) 0 else asd m (Sum.inr z) 0) = bfrm m z q := by
  have hp : asd (aput m (Sum.inr z) q) (Sum.inr z) 0 = aput m (Sum.inr z) q := asd_some (x := q) (by rw [aget_put, if_pos rfl])
  rw [hp]
  unfold bfrm
  cases e : aget m (Sum.inr z) with
  | some r =>
    rw [asd_some e, e]
    rfl
  | none =>
    have hn := aget_nokey e
    rw [asd_none e, aget_snoc e, if_pos rfl]
    show (if (0 : Rat) < q then _ else _) = (if (0 : Rat) < q then _ else _)
    split
    · rw [aput_none hn]
      unfold aput
      rw [if_pos (List.any_eq_true.mpr ⟨((Sum.inr z : Key), (0 : Rat)), by simp, by simp⟩), List.map_append]
      have h1 : m.map (fun kv => if kv.1 = Sum.inr z then (kv.1, q) else kv) = m := by
        have : ∀ x ∈ m, (if x.1 = Sum.inr z then (x.1, q) else x) = x := fun x hx => if_neg fun ex => hn (List.mem_map.mpr ⟨x, hx, ex⟩)
        calc m.map (fun kv => if kv.1 = Sum.inr z then (kv.1, q) else kv) = m.map id := List.map_congr_left this
          _ = m := List.map_id m
      rw [h1]
      simp
    · rfl
end L2
namespace L2
open PySem PySem.Spec PyProof.Rows
theorem cross_div {q : Rat} {n d : Int} (hd : 0 < d) : ∃ r : Rat, r = Rat.divInt n d ∧ ∀ {x y : Int}, x = q.num * d → y = n * q.den → ((x < y ↔ q.num * r.den < r.num * q.den) ∧ (x = y ↔ q.num * r.den = r.num * q.den)) := by
  refine ⟨Rat.divInt n d, rfl, fun {x y} hx hy => ?_⟩
  have e : Rat.divInt (Rat.divInt n d).num (Rat.divInt n d).den = Rat.divInt n d := Rat.num_divInt_den _
  have hp := (Rat.divInt n d).den_pos
  rw [Rat.divInt_eq_divInt_iff (by omega) (by omega)] at e
  generalize (Rat.divInt n d).num = a at *
  generalize hb : (((Rat.divInt n d).den : Nat) : Int) = b at *
  have hb0 : 0 < b := by omega
  have e1 : x * b = (q.num * b) * d := by rw [hx]; grind
  have e2 : y * b = (a * q.den) * d := by rw [hy]; grind
  constructor
  · rw [← Int.mul_lt_mul_right (b := x) hb0, e1, e2, Int.mul_lt_mul_right hd]
  · constructor
    · intro h
      rw [h, e2] at e1
      exact (Int.eq_of_mul_eq_mul_right (by omega) e1).symm
    · intro h
      rw [h, ← e2] at e1
      exact Int.eq_of_mul_eq_mul_right (by omega) e1
theorem less_div {q : Rat} {n d : Int} (hd : 0 < d) : decide (q.num * d < n * q.den) = decide (q < Rat.divInt n d) := by
  obtain ⟨r, rfl, h⟩ := cross_div (q := q) (n := n) hd
  rw [← less_iff]
  exact decide_eq_decide.mpr (h rfl rfl).1
theorem like_div {q : Rat} {n d : Int} (hd : 0 < d) : decide (q.num * d = n * q.den) = decide (q = Rat.divInt n d) := by
  obtain ⟨r, rfl, h⟩ := cross_div (q := q) (n := n) hd
  refine decide_eq_decide.mpr ((h rfl rfl).2.trans ?_)
  have h1 : Rat.divInt q.num q.den = q := Rat.num_divInt_den _
  have h2 : Rat.divInt (Rat.divInt n d).num (Rat.divInt n d).den = Rat.divInt n d := Rat.num_divInt_den _
  rw [← Rat.divInt_eq_divInt_iff (by have := q.den_pos; omega) (by have := (Rat.divInt n d).den_pos; omega), h1, h2]
theorem like_iff (q r : Rat) : decide (q.num * r.den = r.num * q.den) = decide (q = r) := by
  have h := like_div (q := q) (n := r.num) (d := (r.den : Int)) (by have := r.den_pos; omega)
  have e : Rat.divInt r.num r.den = r := Rat.num_divInt_den _
  rw [e] at h
  exact h
theorem held_all {S : List Stp} {b M : Str → Rat} {K L : List Str} {T : List (Str × Str)} (hs : ∀ st ∈ S, M st.1 + st.2.2.1 ≤ M st.2.1) (hb : ∀ s, b s ≤ M s) (hw : ∀ s, Wk S b s (M s)) (h0 : ∀ s ∈ K, M s = b s → s ∈ L)
    (hT : ∀ st ∈ S, M st.2.1 = M st.1 + st.2.2.1 → (st.1, st.2.1) ∈ T) (hSK : ∀ st ∈ S, st.1 ∈ K) (hcl : ∀ p ∈ T, p.1 ∈ L → p.2 ∈ L) (nK : K.Nodup) (nL : L.Nodup) (sub : ∀ s ∈ L, s ∈ K) : L.length = K.length := by
  have all : ∀ s, s ∈ K → s ∈ L := fun s => wk_all hs hb (Pd := fun s => s ∈ K → s ∈ L) (fun s e h => h0 s h e) (fun st hst e h _ => hcl _ (hT st hst e) (h (hSK st hst))) (hw s) rfl
  exact ((List.perm_ext_iff_of_nodup nL nK).mpr fun s => ⟨sub s, all s⟩).length_eq
structure HldI (K : List Str) (T : List (Str × Str)) (B L : List Str) (at_ : Nat) : Prop where
  nd : L.Nodup
  sub : ∀ s ∈ L, s ∈ K
  bs : ∀ s ∈ B, s ∈ L
  le : at_ ≤ L.length
  cl : ∀ j z, j < at_ → L[j]? = some z → ∀ p ∈ T, p.1 = z → p.2 ∈ L
theorem HldI.step {K : List Str} {T : List (Str × Str)} {B L N : List Str} {i : Nat} {z : Str} (h : HldI K T B L i) (hT : ∀ p ∈ T, p.2 ∈ K) (hz : L[i]? = some z) (nN : N.Nodup) (hN : ∀ y, y ∈ N ↔ ∃ p ∈ T, p.1 = z ∧ p.2 = y ∧ y ∉ L) : HldI K T B (L ++ N) (i + 1) where
  nd := List.nodup_append.mpr ⟨h.nd, nN, fun a ha b hb e => by
    subst e
    obtain ⟨p, _, _, _, hn⟩ := (hN a).mp hb
    exact hn ha⟩
  sub := fun s hs => by
    rcases List.mem_append.mp hs with h1 | h1
    · exact h.sub s h1
    · obtain ⟨p, hp, _, rfl, _⟩ := (hN s).mp h1
      exact hT p hp
  bs := fun s hs => List.mem_append.mpr (.inl (h.bs s hs))
  le := by
    have := (List.getElem?_eq_some_iff.mp hz).1
    rw [List.length_append]
    omega
  cl := fun j y hj hy p hp e => by
    have hi := (List.getElem?_eq_some_iff.mp hz).1
    rw [List.getElem?_append_left (by omega)] at hy
    by_cases hji : j = i
    · subst hji
      rw [hz] at hy
      cases hy
      by_cases hm : p.2 ∈ L
      · exact List.mem_append.mpr (.inl hm)
      · exact List.mem_append.mpr (.inr ((hN p.2).mpr ⟨p, hp, e, rfl, hm⟩))
    · exact List.mem_append.mpr (.inl (h.cl j y (by omega) hy p hp e))
theorem HldI.closed {K : List Str} {T : List (Str × Str)} {B L : List Str} {i : Nat} (h : HldI K T B L i) (hi : L.length ≤ i) : ∀ p ∈ T, p.1 ∈ L → p.2 ∈ L := fun p hp hm => by
  obtain ⟨j, hj, e⟩ := List.getElem_of_mem hm
  exact h.cl j p.1 (by omega) (by rw [List.getElem?_eq_getElem hj, e]) p hp rfl
theorem HldI.len {K : List Str} {T : List (Str × Str)} {B L : List Str} {i : Nat} (h : HldI K T B L i) : L.length ≤ K.length := h.nd.length_le_of_subset fun s hs => h.sub s hs
noncomputable def PrQ (H : Hp) (v : V) (p : Str × Str) : Prop := ∃ a, v = .ref a ∧ H a = some (.tup [.str p.1, .str p.2])
theorem PrQ.tk {H G : Hp} {v : V} {p : Str × Str} (h : PrQ H v p) (t : TK H G) : PrQ G v p := let ⟨a, e, ha⟩ := h; ⟨a, e, t a _ ha⟩
theorem mval {H : Hp} {kv : List (Key × V)} {m : AL Key Rat} {y : Str} {P : Rat → Prop} (kq : KQ FrQ H kv m) (hk : (Sum.inr y : Key) ∈ m.map (·.1)) (hz : ∀ x ∈ m, P x.2) : ∃ p, valV kv (Sum.inr y) = some (.ref p) ∧ H p = some (.tup [.int (mfun m y).num, .int (mfun m y).den]) ∧ P (mfun m y) := by
  rcases kq.val (k := Sum.inr y) with ⟨_, e2⟩ | ⟨v1, r1, e1, e2, f1⟩
  · exact absurd hk (aget_nokey e2)
  · obtain ⟨p, rfl, hp⟩ := f1
    have er : mfun m y = r1 := by unfold mfun; rw [e2]; rfl
    rw [er]
    exact ⟨p, e1, hp, hz _ (aget_mem e2)⟩
theorem melt_same {H G : Hp} {d : Addr} {o : Obj} {u : HO} (hd : H d = some u) (s : Same (upd H d (.frz o u)) G) : Same H (melt d G) := fun b x h => by
  by_cases e : b = d
  · subst e
    rw [melt_at (s _ _ upd_same), ← h, hd]
  · rw [melt_ne e]
    exact s b x (by rw [upd_ne e]; exact h)
theorem LQ.keep {β : Type} {R : Hp → V → β → Prop} {H G : Hp} {a : Addr} {xs : List β} (h : LQ R H a xs) (s : Same H G) (k : ∀ {v b}, R H v b → R G v b) : LQ R G a xs := let ⟨vs, hv, p⟩ := h; ⟨vs, s _ _ hv, Pd.imp p fun v b r => k r⟩
theorem SmR.sz {q : Rat} (h : SmR q) : Sz 8000 q := ⟨h.1, by have := h.2; unfold Sm at this; simpa using this⟩
theorem stepsBy_sz : ∀ {w : Wsh} {j : Nat} {st : Stp}, w.ok → st ∈ stepsBy j w → Sz 8000 st.2.2.1
  | .after s u q, j, st, hb, h => by rw [List.mem_singleton.mp h]; exact SmR.sz hb.2.2.2
  | .within s u q, j, st, hb, h => by rw [List.mem_singleton.mp h]; exact Sz.neg (SmR.sz hb.2.2.2)
  | .wit s u, j, st, hb, h => by
    have z : Sz 8000 0 := by constructor <;> decide +kernel
    rcases List.mem_cons.mp h with rfl | h
    · exact z
    · rw [List.mem_singleton.mp h]; exact z
  | .frm s q, j, st, hb, h => by cases h
noncomputable def dnR (q : Rat) : Rat := if q.num < 0 then q else -q
noncomputable def upR (q : Rat) : Rat := if q.num < 0 then -q else q
theorem dnR_nd (q : Rat) : (dnR q).num = 0 - (if q.num < 0 then -q.num else q.num) ∧ (dnR q).den = q.den := by
  unfold dnR
  split
  · exact ⟨by omega, rfl⟩
  · exact ⟨by rw [Rat.neg_num]; omega, Rat.neg_den ..⟩
theorem upR_nd (q : Rat) : (upR q).num = (if q.num < 0 then -q.num else q.num) ∧ (upR q).den = q.den := by
  unfold upR
  split
  · exact ⟨Rat.neg_num .., Rat.neg_den ..⟩
  · exact ⟨rfl, rfl⟩
theorem bdR2.neg {q : Rat} (h : bdR2 q) : bdR2 (-q) := by
  obtain ⟨t, b, h1, h2, h3, h4, rfl⟩ := h
  refine ⟨-t, b, h1, h2, by omega, by omega, ?_⟩
  rw [Rat.neg_divInt]
theorem SmR.neg {q : Rat} (h : SmR q) : SmR (-q) := ⟨by
  have h1 := h.1
  unfold Sm at *
  rw [Rat.neg_num, Int.natAbs_neg]
  exact h1, by
  have h2 := h.2
  rw [Rat.neg_den]
  exact h2⟩
theorem dnR_ok {q : Rat} (h1 : bdR2 q) (h2 : SmR q) : bdR2 (dnR q) ∧ SmR (dnR q) := by
  unfold dnR
  split
  · exact ⟨h1, h2⟩
  · exact ⟨h1.neg, h2.neg⟩
theorem upR_ok {q : Rat} (h1 : bdR2 q) (h2 : SmR q) : bdR2 (upR q) ∧ SmR (upR q) := by
  unfold upR
  split
  · exact ⟨h1.neg, h2.neg⟩
  · exact ⟨h1, h2⟩
theorem mfun_asd {m : AL Key Rat} {k : Key} {s : Str} : mfun (asd m k 0) s = mfun m s := by
  unfold mfun
  rw [asd_get]
  split
  · rename_i h
    rw [h.1, h.2]
    rfl
  · rfl
theorem mfun_bstep {m : AL Key Rat} {s : Str} : ∀ w : Wsh, mfun m s ≤ mfun (bstep m w) s
  | .after z u _ => by
    show mfun m s ≤ mfun (asd (asd m (Sum.inr z) 0) (Sum.inr u) 0) s
    rw [mfun_asd, mfun_asd]
    exact Rat.le_refl
  | .within z u _ => by
    show mfun m s ≤ mfun (asd (asd m (Sum.inr z) 0) (Sum.inr u) 0) s
    rw [mfun_asd, mfun_asd]
    exact Rat.le_refl
  | .wit z u => by
    show mfun m s ≤ mfun (asd (asd m (Sum.inr z) 0) (Sum.inr u) 0) s
    rw [mfun_asd, mfun_asd]
    exact Rat.le_refl
  | .frm z q => by
    show mfun m s ≤ mfun (bfrm m z q) s
    rw [← bfrm_law]
    split
    · rename_i h
      rw [mfun_asd (m := aput m (Sum.inr z) q), mfun_put]
      unfold updS
      split
      · rename_i e
        rw [e]
        exact Rat.le_of_lt h
      · exact Rat.le_refl
    · rw [mfun_asd]
      exact Rat.le_refl
theorem mfun_bfold (ws : List Wsh) (s : Str) : ∀ us : List Wsh, mfun (bfold ws) s ≤ mfun (bfold (ws ++ us)) s := by
  intro us
  induction us generalizing ws with
  | nil => rw [List.append_nil]; exact Rat.le_refl
  | cons u us ih =>
    have h := ih (ws ++ [u])
    rw [List.append_assoc] at h
    refine Rat.le_trans ?_ h
    rw [bfold_snoc]
    exact mfun_bstep u
noncomputable def FdQ (H : Hp) (p : Addr) (ws : List Wsh) : Prop :=
  (∃ (d : Addr) (m : AL Key Rat), H p = some (.tup [.str "moments", .ref d]) ∧ DQ FrQ H d m ∧ m.map (·.1) = (bfold ws).map (·.1) ∧ (∀ s, mfun (bfold ws) s ≤ mfun m s) ∧ (∀ st ∈ stepsOf ws, mfun m st.1 + st.2.2.1 ≤ mfun m st.2.1) ∧ (∀ s, Wk (stepsOf ws) (mfun (bfold ws)) s (mfun m s)) ∧ ∀ x ∈ m, Sz 8000 x.2) ∨
  ∃ (l : Addr) (R : List Stp), H p = some (.tup [.str "ring", .ref l]) ∧ LQ StepQ H l R ∧ RingOk (stepsOf ws) R ∧ R.length ≤ 500 ∧ ∀ st ∈ R, Sz 1100 st.2.2.1
theorem FdQ.sm {H G : Hp} {p : Addr} {ws : List Wsh} (h : FdQ H p ws) (s : Same H G) : FdQ G p ws := by
  rcases h with ⟨d, m, hp, ⟨kv, hk, kq⟩, h⟩ | ⟨l, R, hp, hl, h⟩
  · exact .inl ⟨d, m, s _ _ hp, ⟨kv, s _ _ hk, kq.imp fun v b f => f.tk s.tk⟩, h⟩
  · exact .inr ⟨l, R, s _ _ hp, hl.sm StepQ.tk s, h⟩
theorem steps_pre {ws us : List Wsh} {st : Stp} (h : st ∈ stepsOf ws) : st ∈ stepsOf (ws ++ us) := by
  unfold stepsOf
  rw [stepsFrom_app]
  exact List.mem_append.mpr (.inl h)
theorem hasB_pre {ws : List Wsh} {s : Str} (us : List Wsh) (h : hasB (bfold ws) s) : hasB (bfold (ws ++ us)) s := by
  induction us generalizing ws with
  | nil => rw [List.append_nil]; exact h
  | cons u us ih =>
    have := ih (ws := ws ++ [u]) (by rw [bfold_snoc]; exact h.step u)
    rwa [List.append_assoc] at this
theorem key_has {m : AL Key Rat} {s : Str} (h : (Sum.inr s : Key) ∈ m.map (·.1)) : hasB m s := by
  cases e : aget m (Sum.inr s) with
  | none => exact absurd h (aget_nokey e)
  | some q => exact ⟨q, e⟩
theorem has_key {m : AL Key Rat} {s : Str} (h : hasB m s) : (Sum.inr s : Key) ∈ m.map (·.1) := let ⟨_, e⟩ := h; List.mem_map.mpr ⟨_, aget_mem e, rfl⟩
theorem rd_frz {H : Hp} {a b : Addr} {o : Obj} {u v : HO} (h1 : H a = some u) (h2 : H b = some v) : Rd (upd H a (.frz o u)) b v := by
  by_cases e : b = a
  · subst e
    rw [h1] at h2
    cases h2
    exact .inr ⟨o, upd_same⟩
  · exact .inl (upd_not e h2)
theorem rd_sm {H G : Hp} {a : Addr} {u : HO} (h : Rd H a u) (s : Same H G) : Rd G a u := by
  rcases h with h | ⟨o, h⟩
  · exact .inl (s _ _ h)
  · exact .inr ⟨o, s _ _ h⟩
theorem cut_take (xs : List V) (k : Nat) : cutV xs none (some (k : Int)) = xs.take k := by
  unfold cutV
  rw [HT.sIx_nat, HT.sIx_none, List.drop_zero, Nat.sub_zero]
  by_cases h : k ≤ xs.length
  · rw [Nat.min_eq_left h]
  · rw [Nat.min_eq_right (by omega), List.take_length, List.take_of_length_le (by omega)]
theorem bells_inU {U : List Str} : ∀ {w : Wsh}, w.inU U → ∀ s ∈ w.bells, s ∈ U
  | .after s u _, h, x, hx => by rcases List.mem_cons.mp hx with rfl | hx; exact h.1; rw [List.mem_singleton.mp hx]; exact h.2
  | .within s u _, h, x, hx => by rcases List.mem_cons.mp hx with rfl | hx; exact h.1; rw [List.mem_singleton.mp hx]; exact h.2
  | .wit s u, h, x, hx => by rcases List.mem_cons.mp hx with rfl | hx; exact h.1; rw [List.mem_singleton.mp hx]; exact h.2
  | .frm s _, h, x, hx => by rw [List.mem_singleton.mp hx]; exact h
theorem pk_inU {U : List Str} : ∀ {w : Wsh}, w.ok → (∀ s ∈ w.bells, s ∈ U) → w.pk (· ∈ U) (Sz 8000)
  | .after s u _, _, h => ⟨h s (List.mem_cons_self ..), h u (List.mem_cons_of_mem _ (List.mem_singleton.mpr rfl))⟩
  | .within s u _, _, h => ⟨h s (List.mem_cons_self ..), h u (List.mem_cons_of_mem _ (List.mem_singleton.mpr rfl))⟩
  | .wit s u, _, h => ⟨h s (List.mem_cons_self ..), h u (List.mem_cons_of_mem _ (List.mem_singleton.mpr rfl))⟩
  | .frm s q, ok, h => ⟨h s (List.mem_singleton.mpr rfl), (ok_sz ok).2⟩
theorem bfold_few {U : List Str} (ws : List Wsh) (h : ∀ w ∈ ws, w.ok ∧ ∀ s ∈ w.bells, s ∈ U) : List.length (α := Key × Rat) (bfold ws) ≤ U.length := by
  have bok := bfold_ok (Pk := (· ∈ U)) (Pv := Sz 8000) (by constructor <;> decide +kernel) ws fun w hw => pk_inU (h w hw).1 (h w hw).2
  obtain ⟨KS, eK⟩ : ∃ L : List Str, (bfold ws).map (·.1) = L.map Sum.inr := keysS _ fun x hx => let ⟨s, e, _⟩ := bok.ks x hx; ⟨s, e⟩
  have nd : KS.Nodup := nd_inr (by rw [← eK]; exact bok.nd)
  have hl := congrArg List.length eK
  rw [List.length_map, List.length_map] at hl
  have := nd.length_le_of_subset (l₂ := U) fun s hs => by
    have hm : (Sum.inr s : Key) ∈ (bfold ws).map (·.1) := by rw [eK]; exact List.mem_map.mpr ⟨s, hs, rfl⟩
    obtain ⟨x, hx, e⟩ := List.mem_map.mp hm
    obtain ⟨s', e', hs'⟩ := bok.ks x hx
    rw [e] at e'
    cases e'
    exact hs'
  exact Nat.le_trans (Nat.le_of_eq hl) this
theorem pd_take {β : Type} {R : V → β → Prop} : ∀ {xs : List V} {ds : List β}, Paired R xs ds → ∀ n : Nat, Paired R (xs.take n) (ds.take n)
  | _, _, _, 0 => by rw [List.take_zero, List.take_zero]; exact .nil
  | _, _, .nil, n + 1 => .nil
  | _, _, .cons h r, n + 1 => .cons h (pd_take r n)
end L2
namespace L2
open PySem PySem.Spec PyProof.Rows
theorem size_step {n k : Nat} (hk : 1 ≤ k) : Builtin.Range.rangeSize 0 n k = (((n + k - 1) / k : Nat) : Int) := by
  unfold Builtin.Range.rangeSize
  rw [if_pos (by omega)]
  split
  · have e : (n : Int) - 0 - 1 = ((n - 1 : Nat) : Int) := by omega
    rw [e, show n + k - 1 = (n - 1) + k by omega, Nat.add_div_right _ (by omega)]
    simp
  · have : n = 0 := by omega
    subst this
    rw [Nat.div_eq_of_lt (by omega)]
    rfl
theorem step_le {n k : Nat} (hk : 1 ≤ k) : (n + k - 1) / k ≤ n := by
  rcases Nat.eq_zero_or_pos n with rfl | h
  · rw [Nat.div_eq_of_lt (by omega)]
    exact Nat.le_refl 0
  · rw [show n + k - 1 = (n - 1) + k by omega, Nat.add_div_right _ (by omega)]
    have := Nat.div_le_self (n - 1) k
    omega
theorem step_lt {n k i : Nat} (hk : 1 ≤ k) (h : i < (n + k - 1) / k) : i * k ≤ n := by
  have h1 : (i + 1) * k ≤ n + k - 1 := (Nat.le_div_iff_mul_le (by omega)).mp h
  rw [Nat.succ_mul] at h1
  omega
theorem small_step {n k : Nat} (hn : n ≤ 1000) (hk : 1 ≤ k) (hk2 : k ≤ 1000) : Builtin.Range.small 0 n k = true := by
  have h := step_le (n := n) hk
  unfold Builtin.Range.small
  rw [size_step hk]
  generalize (n + k - 1) / k = z at h
  simp only [Builtin.Range.rangeFitsLong, Bool.and_eq_true, Bool.or_eq_true, decide_eq_true_eq, beq_iff_eq, show (k : Int) > 0 by omega, if_true]
  omega
theorem div_plain3 {k : Nat} (x : Int) (hk : 1 ≤ k) (hk2 : k ≤ 1000) : Builtin.divisionGoesByPylong x k = false := by
  have h : (k : Int).natAbs.log2 < 10 := by
    rw [Int.natAbs_natCast]
    exact (Nat.log2_lt (by omega)).mpr (by omega)
  unfold Builtin.divisionGoesByPylong
  have e : decide ((if ((k : Int) == 0) = true then 0 else (k : Int).natAbs.log2 / 30 + 1) > 300) = false := by
    refine decide_eq_false ?_
    split <;> omega
  show (decide ((if ((k : Int) == 0) = true then 0 else (k : Int).natAbs.log2 / 30 + 1) > 300) && _) = false
  rw [e]
  rfl
theorem call_range_3 {prog : Program} {w : World} {A : Around} {E : Value → Shared → Prop} {s : Shared} {a b c : Int} {t u v : Tok} {Q : Value → Shared → Prop} (hc : c ≠ 0) (hd : Builtin.divisionGoesByPylong (b - a) c = false)
    (h : Q (.ref s.heap.objs.size) { s with heap := s.heap.push { cls := .type "range", data := .fields #[.int a t, .int b u, .int c v] } }) :
    wpAny (model prog w) A (call (.type "range") [.int a t, .int b u, .int c v]) Q E s :=
  callType_new F.called_range (by decide) (typeCall_range_3 _ _ _) (newCall_range_3 _ _ _) (fun obj => initArgs_range_3 obj _ _ _) F.entry_range_new
    (AutoRange.range___new___type_int_int_int_1 a b c t u v F.called_range.sub (by rw [beq_iff_eq]; exact fun e => hc (Option.some.inj e))) ⟨hd, ⟨_, Heap.get?_push_size _ rfl, rfl⟩, h⟩
noncomputable def rngS (n k : Nat) : List Nat := (List.range ((n + k - 1) / k)).map fun i => i * k
theorem rngS_le {n k x : Nat} (hk : 1 ≤ k) (h : x ∈ rngS n k) : x ≤ n := by
  obtain ⟨i, hi, rfl⟩ := List.mem_map.mp h
  exact step_lt hk (List.mem_range.mp hi)
theorem rngS_up (n k : Nat) : (rngS n k).Pairwise (· ≤ ·) := by
  refine List.pairwise_map.mpr ((List.pairwise_lt_range).imp fun h => Nat.mul_le_mul_right k (Nat.le_of_lt h))
theorem rngS_len {n k : Nat} (hk : 1 ≤ k) : (rngS n k).length ≤ n := by
  unfold rngS
  rw [List.length_map, List.length_range]
  exact step_le hk
theorem rngS_vals {acc : Array Value} {m k : Nat} (h : ItemsOf (fun i x => ∃ t, x = Value.int (0 + (i : Nat) * (k : Int)) t) acc m) : Vals (((List.range m).map fun i => i * k).map fun (i : Nat) => V.int (i : Int)) acc.toList := by
  have key : ∀ (l : List Value) (z : Nat), (∀ j v, l[j]? = some v → ∃ t, v = Value.int (((z + j) * k : Nat) : Int) t) → Vals (((List.range' z l.length).map fun i => i * k).map fun (i : Nat) => V.int (i : Int)) l := by
    intro l
    induction l with
    | nil => exact fun k _ => .nil
    | cons u r ih =>
      intro z hk
      rw [List.length_cons, List.range'_succ, List.map_cons, List.map_cons]
      refine .cons ?_ (ih (z + 1) fun j v e => ?_)
      · obtain ⟨t, e⟩ := hk 0 u rfl
        exact ⟨t, e⟩
      · obtain ⟨t, e2⟩ := hk (j + 1) v e
        exact ⟨t, by rw [e2, show z + (j + 1) = z + 1 + j by omega]⟩
  have := key acc.toList 0 fun j v e => by
    obtain ⟨t, e2⟩ := h.2 j v (by rw [← Array.getElem?_toList]; exact e)
    exact ⟨t, by rw [e2]; simp⟩
  rw [Array.length_toList, h.1, ← List.range_eq_range'] at this
  exact this
noncomputable def tLrn3 (ta : TA) : TE := fun σ H Q => ta σ H fun vs H1 => ∃ n k : Nat, vs = [.int 0, .int n, .int k] ∧ n ≤ 1000 ∧ 1 ≤ k ∧ k ≤ 1000 ∧ ∀ p, H1 p = none → Q (.ref p) (upd H1 p (.lst ((rngS n k).map fun (i : Nat) => V.int (i : Int))))
theorem r_lrn3 {σ : St} {H : Hp} {Q : VK} {ta : TA} (k : ta σ H fun vs H1 => ∃ n k : Nat, vs = [.int 0, .int n, .int k] ∧ n ≤ 1000 ∧ 1 ≤ k ∧ k ≤ 1000 ∧ ∀ p, H1 p = none → Q (.ref p) (upd H1 p (.lst ((rngS n k).map fun (i : Nat) => V.int (i : Int))))) : tLrn3 ta σ H Q := k
theorem pe_lrn3 {X : Cx} {a b c : Expr} {ta : TA} {p p2 pos pos2 : Pos} (hc : X.calm = true) (hgl : Gl X "list") (hml : X.mg "list" = none) (hg : Gl X "range") (hm : X.mg "range" = none) (ha : PA X [a, b, c] ta)
    (he : starEach [.Call (.Name "range" p2) [a, b, c] [] pos2] X.env = [(false, eval (.Call (.Name "range" p2) [a, b, c] [] pos2) X.env)] := by rfl) (hs : starEach [a, b, c] X.env = (false, eval a X.env) :: starEach [b, c] X.env := by rfl) (hpl : (backTo pos2 (starEach [b, c] X.env)).any (·.1) = false := by rfl) :
    PE X (.Call (.Name "list" p) [.Call (.Name "range" p2) [a, b, c] [] pos2] [] pos) (tLrn3 ta) := by
  intro pins s σ H Q I h
  refine wpAny_Call_Name_kw (ld_blt I hgl hml bt_list ?_ (by decide) (by decide))
  refine PyProof.Rows.callWith_type1 ?_ he rfl
  rw [he]
  show wpAny _ _ (spliced ((false, eval (.Call (.Name "range" p2) [a, b, c] [] pos2) X.env) :: backTo pos [])) _ _ s
  refine Calls.spliced_cons ?_
  refine Call_ (ld_blt I hg hm boot_range (PyProof.Rows.callWith_type1 (thn (ha pos2 pins s σ H _ I h) fun us s1 ⟨vs, H1, I1, r1, q1⟩ => ?_) hs hpl))
  obtain ⟨n, k, e, hn, hk, hk2, q⟩ := q1
  subst e
  cases r1 with
  | cons r rr =>
    cases rr with
    | cons r' rr =>
      cases rr with
      | cons r2 rr =>
        cases rr
        obtain ⟨t, rfl⟩ := r
        obtain ⟨t', rfl⟩ := r'
        obtain ⟨t2, rfl⟩ := r2
        refine call_range_3 (by omega) (div_plain3 _ hk hk2) ?_
        refine Calls.spliced_nil ?_
        have hle := step_le (n := n) hk
        refine call_list_range (I.ok.hd hc) (IsRange.new ..) (small_step hn hk hk2) (n := (n + k - 1) / k) (size_step hk) (by omega) fun h' tk acc' c' hk' hD hacc => ?_
        have hr := rngS_vals hacc
        refine ⟨.ref _, _, I1.laid (t' := tk) (a := (s1.heap.push { cls := .type "range", data := .fields #[.int 0 t, .int n t', .int k t2] }).objs.size) (o := .lst ((rngS n k).map fun (i : Nat) => V.int (i : Int))) (fun b o e => hk' b o (Heap.get?_push_of_some _ e)) (by rw [Heap.size_push]; exact Nat.le_succ _) ?_, rfl, q _ (I1.hok.fresh (by rw [Heap.size_push]; exact Nat.le_succ _))⟩
        refine ⟨?_, _, c', hr, ?_⟩
        · have := rngS_len (n := n) hk
          rw [List.length_map, sizeLine_eq]
          omega
        · rw [Array.toArray_toList]
          exact hD
end L2
namespace Lw
open PySem L2
set_option compiler.extract_closed false
set_option hygiene false
local macro_rules | `(tactic| walk_at "hp") => `(tactic| first
  | with_reducible assumption
  | with_reducible exact upd_same
  | ((with_reducible refine upd_old ?hn ?_); (case hn => with_reducible assumption); walk_at "hp"))
local macro_rules | `(tactic| walk_at "go1") => `(tactic| first
  | with_reducible refine r_seq ?_
  | ((with_reducible refine r_nxD ?_); (with_reducible refine r_nx ?_))
  | ((with_reducible refine r_rtD ?_); (with_reducible refine r_rt ?_))
  | with_reducible refine r_asg ?_
  | with_reducible refine r_gname ?_
  | ((with_reducible refine' r_var ?rv ?_); case rv => exact rfl)
  | with_reducible refine r_c ?_
  | with_reducible refine r_op ?_
  | with_reducible refine r_un ?_
  | with_reducible refine r_I0 ?_
  | with_reducible refine r_U ?_
  | with_reducible refine a_int ?_
  | with_reducible refine r_sl ?_
  | with_reducible refine r_part ?_
  | with_reducible refine r_partK ?_
  | with_reducible refine r_nopart ?_
  | ((with_reducible refine r_mod ?mc ?_); case mc => first | decide | omega)
  | ((with_reducible refine r_modN ?mc ?_); case mc => first | decide | omega)
  | ((with_reducible refine r_mul ?mc ?_); case mc => first | exact CMulB.r (by decide) (by decide) | exact CMulB.l (by decide) (by decide) | exact CMulB.l (by omega) (by omega) | exact CMulB.r (by omega) (by omega))
  | ((with_reducible refine r_fdiv ?mc ?_); case mc => first | exact CDivB.of (by decide) (by decide) | exact CDivB.of (by omega) (by omega))
  | with_reducible refine r_pow18 ?_
  | with_reducible refine r_test ?_
  | with_reducible refine r_tB ?_
  | with_reducible refine r_bK ?_
  | with_reducible refine r_ifS ?_
  | with_reducible refine r_if ?_
  | with_reducible refine r_and ?_
  | with_reducible refine r_or ?_
  | with_reducible refine r_not ?_
  | with_reducible refine r_andV ?_
  | with_reducible refine r_notV ?_
  | with_reducible refine r_andK ?_
  | with_reducible refine r_notK ?_
  | with_reducible refine r_ret ?_
  | with_reducible refine r_next ?_
  | with_reducible refine r_drop ?_
  | with_reducible refine r_nil ?_
  | with_reducible refine r_cons ?_
  | with_reducible refine r_tup ?_
  | with_reducible refine r_lst ?_
  | with_reducible refine r_call ?_
  | with_reducible refine r_iTup ?_
  | with_reducible refine r_CB ?_
  | with_reducible refine r_dget ?_
  | with_reducible refine r_dput ?_
  | with_reducible refine r_dget2 ?_
  | with_reducible refine r_bm ?_
  | with_reducible refine r_bm0 ?_
  | with_reducible refine r_bmS ?_
  | with_reducible refine r_gcons ?_
  | with_reducible refine r_gnil ?_
  | with_reducible refine r_iEnum ?_
  | with_reducible refine r_isNn ?_
  | with_reducible refine r_isNs ?_
  | with_reducible refine r_noNn ?_
  | with_reducible refine r_noNs ?_
  | ((with_reducible refine' r_bmL ?ih ?_); (case ih => walk_at "hp"))
  | ((with_reducible refine' r_bmD ?ih ?_); (case ih => walk_at "hp"))
  | ((with_reducible refine' r_bm0D ?ih ?_); (case ih => walk_at "hp"))
  | ((with_reducible refine' r_gtup2 ?ih ?_); (case ih => walk_at "hp"))
  | ((with_reducible refine' r_gtup4 ?ih ?_); (case ih => walk_at "hp"))
  | with_reducible refine r_par ?_
  | with_reducible refine r_parK ?_
  | with_reducible refine e_int ?_
  | with_reducible refine n_int ?_
  | with_reducible refine e_str ?_
  | with_reducible refine n_str ?_
  | with_reducible refine r_abs ?_
  | with_reducible refine r_max ?_
  | with_reducible refine r_min ?_
  | with_reducible refine r_intB ?_
  | with_reducible refine r_for ?_
  | with_reducible refine r_comp ?_
  | with_reducible refine r_rng1 ?_
  | with_reducible refine r_rng2 ?_
  | with_reducible refine r_iList ?_
  | ((with_reducible refine' r_lent ?ih ?_); (case ih => walk_at "hp"))
  | ((with_reducible refine' r_lenl ?ih ?_); (case ih => walk_at "hp"))
  | ((with_reducible refine' r_ixt ?ih ?ie ?_); (case ih => walk_at "hp"); (case ie => exact rfl))
  | with_reducible refine i_T ?_
  | with_reducible refine i_F ?_
  | with_reducible refine i_flip ?_
  | ((with_reducible refine i_dT ?dc ?_); case dc => omega)
  | ((with_reducible refine i_dF ?dc ?_); case dc => omega))
local macro_rules | `(tactic| walk_at "go") => `(tactic| repeat (walk_at "go1"))
local macro_rules | `(tactic| walk_at "gos") => `(tactic| repeat ((fail_if_success (with_reducible refine r_seq ?_)); walk_at "go1"))
set_option hygiene true
theorem el_n {P : List Value → Prop} (h : P []) : ∀ us : List Value, us.length = 0 → P us := fun us e => (List.length_eq_zero_iff.mp e).symm ▸ h
theorem el_s {n : Nat} {P : List Value → Prop} (h : ∀ a us, us.length = n → P (a :: us)) : ∀ us : List Value, us.length = n + 1 → P us := fun us => List.casesOn (motive := fun us => us.length = n + 1 → P us) us (fun e => absurd e (Nat.succ_ne_zero n).symm) fun a us e => h a us (Nat.succ.inj e)
theorem el_1 {P : List Value → Prop} (h : ∀ a0, P [a0]) : ∀ us : List Value, us.length = 1 → P us := el_s fun a0 => el_n (h a0)
theorem el_2 {P : List Value → Prop} (h : ∀ a0 a1, P [a0, a1]) : ∀ us : List Value, us.length = 2 → P us := el_s fun a0 => el_s fun a1 => el_n (h a0 a1)
theorem el_3 {P : List Value → Prop} (h : ∀ a0 a1 a2, P [a0, a1, a2]) : ∀ us : List Value, us.length = 3 → P us := el_s fun a0 => el_s fun a1 => el_s fun a2 => el_n (h a0 a1 a2)
noncomputable def top (i : Nat) : Stmt := PySem.Challenge.pw_tilefall_k55_whole_met_or_ring.main.body.getD i (.Pass ⟨0, 0, 0, 0⟩)
local macro_rules | `(tactic| walk_at "go1") => `(tactic| first
  | with_reducible refine r_chain ?_
  | with_reducible refine r_chnA ?_
  | with_reducible refine r_chnB ?_
  | with_reducible refine r_chnC ?_
  | with_reducible refine r_chnD ?_
  | with_reducible refine r_inTx ?_
  | with_reducible refine r_iSigns ?_)
noncomputable abbrev s_is_whole : Stmt := top 4
theorem sc_is_whole : FnScope ["thing"] ["thing"] (defScope s_is_whole) := ⟨rfl, rfl, rfl, by decide +kernel, rfl, by decide +kernel, by decide +kernel⟩
noncomputable abbrev s_common_divisor : Stmt := top 5
theorem sc_common_divisor : FnScope ["one", "other", "rest"] ["one", "other"] (defScope s_common_divisor) := ⟨rfl, rfl, rfl, by decide +kernel, rfl, by decide +kernel, by decide +kernel⟩
noncomputable abbrev s_is_fraction : Stmt := top 6
theorem sc_is_fraction : FnScope ["thing"] ["thing"] (defScope s_is_fraction) := ⟨rfl, rfl, rfl, by decide +kernel, rfl, by decide +kernel, by decide +kernel⟩
noncomputable abbrev s_added : Stmt := top 7
theorem sc_added : FnScope ["one", "other", "shared", "part", "top", "divisor"] ["one", "other"] (defScope s_added) := ⟨rfl, rfl, rfl, by decide +kernel, rfl, by decide +kernel, by decide +kernel⟩
noncomputable abbrev s_is_less : Stmt := top 8
theorem sc_is_less : FnScope ["one", "other"] ["one", "other"] (defScope s_is_less) := ⟨rfl, rfl, rfl, by decide +kernel, rfl, by decide +kernel, by decide +kernel⟩
noncomputable abbrev s_is_moment : Stmt := top 9
theorem sc_is_moment : FnScope ["thing"] ["thing"] (defScope s_is_moment) := ⟨rfl, rfl, rfl, by decide +kernel, rfl, by decide +kernel, by decide +kernel⟩
noncomputable abbrev s_is_part : Stmt := top 14
theorem sc_is_part : FnScope ["text"] ["text"] (defScope s_is_part) := ⟨rfl, rfl, rfl, by decide +kernel, rfl, by decide +kernel, by decide +kernel⟩
noncomputable abbrev s_is_post : Stmt := top 15
theorem sc_is_post : FnScope ["thing", "parts"] ["thing"] (defScope s_is_post) := ⟨rfl, rfl, rfl, by decide +kernel, rfl, by decide +kernel, by decide +kernel⟩
noncomputable abbrev s_is_pair : Stmt := top 17
theorem sc_is_pair : FnScope ["one", "other"] ["one", "other"] (defScope s_is_pair) := ⟨rfl, rfl, rfl, by decide +kernel, rfl, by decide +kernel, by decide +kernel⟩
noncomputable abbrev s_is_wish : Stmt := top 18
theorem sc_is_wish : FnScope ["thing"] ["thing"] (defScope s_is_wish) := ⟨rfl, rfl, rfl, by decide +kernel, rfl, by decide +kernel, by decide +kernel⟩
noncomputable abbrev s_refuse_no_wishes : Stmt := top 19
theorem sc_refuse_no_wishes : FnScope ["wishes", "number", "thing"] ["wishes"] (defScope s_refuse_no_wishes) := ⟨rfl, rfl, rfl, by decide +kernel, rfl, by decide +kernel, by decide +kernel⟩
noncomputable abbrev s_steps_by : Stmt := top 20
theorem sc_steps_by : FnScope ["number", "wish"] ["number", "wish"] (defScope s_steps_by) := ⟨rfl, rfl, rfl, by decide +kernel, rfl, by decide +kernel, by decide +kernel⟩
noncomputable abbrev s_steps_of : Stmt := top 21
theorem sc_steps_of : FnScope ["wishes", "steps", "number", "wish"] ["wishes"] (defScope s_steps_of) := ⟨rfl, rfl, rfl, by decide +kernel, rfl, by decide +kernel, by decide +kernel⟩
noncomputable abbrev s_first_moments : Stmt := top 22
theorem sc_first_moments : FnScope ["wishes", "moments", "wish", "bells", "bell"] ["wishes"] (defScope s_first_moments) := ⟨rfl, rfl, rfl, by decide +kernel, rfl, by decide +kernel, by decide +kernel⟩
noncomputable abbrev s_put_off : Stmt := top 23
theorem sc_put_off : FnScope ["steps", "moments", "causes", "late", "step", "moment"] ["steps", "moments", "causes"] (defScope s_put_off) := ⟨rfl, rfl, rfl, by decide +kernel, rfl, by decide +kernel, by decide +kernel⟩
noncomputable abbrev s_ring_behind : Stmt := top 24
theorem sc_ring_behind : FnScope ["bell", "causes", "turn", "ring"] ["bell", "causes"] (defScope s_ring_behind) := ⟨rfl, rfl, rfl, by decide +kernel, rfl, by decide +kernel, by decide +kernel⟩
noncomputable abbrev s_played_at : Stmt := top 25
theorem sc_played_at : FnScope ["wishes", "steps", "moments", "causes", "late", "turns"] ["wishes"] (defScope s_played_at) := ⟨rfl, rfl, rfl, by decide +kernel, rfl, by decide +kernel, by decide +kernel⟩
noncomputable abbrev s_cell_at : Stmt := top 27
theorem sc_cell_at : FnScope ["_law_script", "_law_k"] ["_law_script", "_law_k"] (defScope s_cell_at) := ⟨rfl, rfl, rfl, by decide +kernel, rfl, by decide +kernel, by decide +kernel⟩
noncomputable abbrev s_number : Stmt := top 28
theorem sc_number : FnScope ["_law_script", "_law_k", "_law_cell", "_law_one", "_law_two", "_law_three", "_law_number_here"] ["_law_script", "_law_k"] (defScope s_number) := ⟨rfl, rfl, rfl, by decide +kernel, rfl, by decide +kernel, by decide +kernel⟩
noncomputable abbrev s_lowest : Stmt := top 29
theorem sc_lowest : FnScope ["_law_top", "_law_bottom", "_law_one", "_law_other"] ["_law_top", "_law_bottom"] (defScope s_lowest) := ⟨rfl, rfl, rfl, by decide +kernel, rfl, by decide +kernel, by decide +kernel⟩
noncomputable abbrev s_share : Stmt := top 30
theorem sc_share : FnScope ["_law_number_here", "_law_top", "_law_bottom"] ["_law_number_here"] (defScope s_share) := ⟨rfl, rfl, rfl, by decide +kernel, rfl, by decide +kernel, by decide +kernel⟩
noncomputable abbrev s_bells : Stmt := top 31
theorem sc_bells : FnScope ["_law_script", "_law_most", "_law_letters", "_law_number_here", "_law_before", "_law_behind", "_law_one", "_law_other", "_law_found", "_law_k", "_law_name"] ["_law_script", "_law_most"] (defScope s_bells) := ⟨rfl, rfl, rfl, by decide +kernel, rfl, by decide +kernel, by decide +kernel⟩
noncomputable abbrev s_wish : Stmt := top 32
theorem sc_wish : FnScope ["_law_number_here", "_law_bells_here", "_law_kind", "_law_many", "_law_one", "_law_other", "_law_x"] ["_law_number_here", "_law_bells_here"] (defScope s_wish) := ⟨rfl, rfl, rfl, by decide +kernel, rfl, by decide +kernel, by decide +kernel⟩
noncomputable abbrev s_steps : Stmt := top 33
theorem sc_steps : FnScope ["_law_wishes", "_law_found", "_law_k", "_law_wish_here"] ["_law_wishes"] (defScope s_steps) := ⟨rfl, rfl, rfl, by decide +kernel, rfl, by decide +kernel, by decide +kernel⟩
noncomputable abbrev s_sum : Stmt := top 34
theorem sc_sum : FnScope ["_law_one", "_law_other"] ["_law_one", "_law_other"] (defScope s_sum) := ⟨rfl, rfl, rfl, by decide +kernel, rfl, by decide +kernel, by decide +kernel⟩
noncomputable abbrev s_less : Stmt := top 35
theorem sc_less : FnScope ["_law_one", "_law_other"] ["_law_one", "_law_other"] (defScope s_less) := ⟨rfl, rfl, rfl, by decide +kernel, rfl, by decide +kernel, by decide +kernel⟩
noncomputable abbrev s_alike : Stmt := top 36
theorem sc_alike : FnScope ["_law_one", "_law_other"] ["_law_one", "_law_other"] (defScope s_alike) := ⟨rfl, rfl, rfl, by decide +kernel, rfl, by decide +kernel, by decide +kernel⟩
noncomputable abbrev s_is_lowest : Stmt := top 37
theorem sc_is_lowest : FnScope ["_law_found", "_law_number_here"] ["_law_found"] (defScope s_is_lowest) := ⟨rfl, rfl, rfl, by decide +kernel, rfl, by decide +kernel, by decide +kernel⟩
noncomputable abbrev s_base : Stmt := top 38
theorem sc_base : FnScope ["_law_wishes", "_law_base_here", "_law_wish_here"] ["_law_wishes"] (defScope s_base) := ⟨rfl, rfl, rfl, by decide +kernel, rfl, by decide +kernel, by decide +kernel⟩
noncomputable abbrev s_are_least : Stmt := top 39
theorem sc_are_least : FnScope ["_law_moments", "_law_wishes", "_law_base_here", "_law_bell", "_law_tight", "_law_one", "_law_other", "_law_x", "_law_k", "_law_due", "_law_held", "_law_at"] ["_law_moments", "_law_wishes"] (defScope s_are_least) := ⟨rfl, rfl, rfl, by decide +kernel, rfl, by decide +kernel, by decide +kernel⟩
noncomputable abbrev s_is_ring : Stmt := top 40
theorem sc_is_ring : FnScope ["_law_ring", "_law_wishes", "_law_steps_here", "_law_total", "_law_ends", "_law_k"] ["_law_ring", "_law_wishes"] (defScope s_is_ring) := ⟨rfl, rfl, rfl, by decide +kernel, rfl, by decide +kernel, by decide +kernel⟩
noncomputable abbrev s_eased : Stmt := top 41
theorem sc_eased : FnScope ["_law_wish_here", "_law_number_here"] ["_law_wish_here", "_law_number_here"] (defScope s_eased) := ⟨rfl, rfl, rfl, by decide +kernel, rfl, by decide +kernel, by decide +kernel⟩
noncomputable abbrev s_right : Stmt := top 42
theorem sc_right : FnScope ["_law_found", "_law_wishes"] ["_law_found", "_law_wishes"] (defScope s_right) := ⟨rfl, rfl, rfl, by decide +kernel, rfl, by decide +kernel, by decide +kernel⟩
noncomputable abbrev s_no_earlier : Stmt := top 43
theorem sc_no_earlier : FnScope ["_law_ahead", "_law_found", "_law_bell"] ["_law_ahead", "_law_found"] (defScope s_no_earlier) := ⟨rfl, rfl, rfl, by decide +kernel, rfl, by decide +kernel, by decide +kernel⟩
noncomputable abbrev s_law : Stmt := top 44
theorem sc_law : FnScope ["_law_script", "_law_bells_here", "_law_easy", "_law_wishes", "_law_k", "_law_number_here", "_law_wish_here", "_law_step", "_law_ahead", "_law_many", "_law_found"] ["_law_script"] (defScope s_law) := ⟨rfl, rfl, rfl, by decide +kernel, rfl, by decide +kernel, by decide +kernel⟩
noncomputable def spWhole (K : PySem.W.Frag) : Sp := fun vs H Q _ => ∃ (x : V) (t : Value) (b c : Bool), vs = [x] ∧ TyOf K H x t ∧ PySem.W.kitOne K t (.type "int") = some b ∧ PySem.W.kitOne K t (.type "bool") = some c ∧ Q (.bl (b && !c)) H
noncomputable def spGcd : Sp := fun vs H Q _ => ∃ (a b : Int), vs = [.int a, .int b] ∧ Q (.int (Int.gcd a b : Int)) H
noncomputable def spIsFrac (K : PySem.W.Frag) : Sp := fun vs H Q _ => ∃ (x : V) (r : Bool), vs = [x] ∧ Frq K H x r ∧ Q (.bl r) H
noncomputable def spAddQ : Sp := fun vs H Q _ => ∃ (x y : V) (q r : Rat), vs = [x, y] ∧ FrQ H x q ∧ FrQ H y r ∧ Sz 8000 q ∧ Sz 8000 r ∧ ∀ v H', FrQ H' v (q + r) → Same H H' → Q v H'
noncomputable def spLessQ : Sp := fun vs H Q _ => ∃ (x y : V) (q r : Rat), vs = [x, y] ∧ FrQ H x q ∧ FrQ H y r ∧ Sz 8000 q ∧ Sz 8000 r ∧ Q (.bl (decide (q < r))) H
noncomputable def spMomQ (K : PySem.W.Frag) : Sp := fun vs H Q _ => ∃ (x : V) (b : Bool), vs = [x] ∧ MomQ K H x b ∧ Q (.bl b) H
noncomputable def spPart : Sp := fun vs H Q _ => ∃ z : Str, vs = [.str z] ∧ z.length ≤ 1000 ∧ ∀ H', Same H H' → Q (.bl (partB z)) H'
noncomputable def spPost (K : PySem.W.Frag) : Sp := fun vs H Q _ => ∃ (x : V) (b : Bool), vs = [x] ∧ PostQ K H x b ∧ ∀ H', Same H H' → Q (.bl b) H'
noncomputable def spPairQ (K : PySem.W.Frag) : Sp := fun vs H Q _ => ∃ (x y : V) (b : Bool), vs = [x, y] ∧ PairQ K H x y b ∧ ∀ H', Same H H' → Q (.bl b) H'
noncomputable def spIsWish (K : PySem.W.Frag) : Sp := fun vs H Q _ => ∃ (x : V) (b : Bool), vs = [x] ∧ IsWishQ K H x b ∧ ∀ H', Same H H' → Q (.bl b) H'
noncomputable def spRefuse : Sp := fun vs H Q _ => ∃ (l : Addr) (ws : List Wsh), vs = [.ref l] ∧ LQ WishQ H l ws ∧ (∀ w ∈ ws, w.ok) ∧ ws.length ≤ 300 ∧ ∀ H', Same H H' → Q .non H'
noncomputable def spStepsBy : Sp := fun vs H Q _ => ∃ (k : Nat) (v : V) (w : Wsh), vs = [.int k, v] ∧ WishQ H v w ∧ ∀ l H', H l = none → Same H H' → LQ StepQ H' l (stepsBy k w) → Q (.ref l) H'
noncomputable def spStepsOf : Sp := fun vs H Q _ => ∃ (l : Addr) (ws : List Wsh), vs = [.ref l] ∧ LQ WishQ H l ws ∧ (∀ w ∈ ws, w.ok) ∧ ws.length ≤ 300 ∧ ∀ l' H', H l' = none → Same H H' → LQ StepQ H' l' (stepsOf ws) → Q (.ref l') H'
noncomputable def spFirst : Sp := fun vs H Q _ => ∃ (l : Addr) (ws : List Wsh), vs = [.ref l] ∧ LQ WishQ H l ws ∧ (∀ w ∈ ws, w.ok) ∧ ws.length ≤ 300 ∧ ∀ d H', H d = none → Same H H' → DQ FrQ H' d (bfold ws) → Q (.ref d) H'
noncomputable def spPut : Sp := fun vs H Q _ => ∃ (ls dm dc : Addr) (S : List Stp) (b : Str → Rat) (B : List Str) (m : AL Key Rat) (c : AL Key Stp) (T : Str → Nat) (t N D X : Nat), vs = [.ref ls, .ref dm, .ref dc] ∧ LQ StepQ H ls S ∧ DQ FrQ H dm m ∧ DQ StepQ H dc c ∧ dm ≠ dc ∧ S.length ≤ 600 ∧
  (∀ st ∈ S, st.1 ∈ B ∧ st.2.1 ∈ B ∧ st.1 ≠ st.2.1 ∧ Bd D X st.2.2.1) ∧ m.map (·.1) = B.map Sum.inr ∧ (c.map (·.1)).Nodup ∧ Bfi S b B (mfun m) (cfun c) T t 0 none ∧ 1 ≤ t ∧ RoomW D X ∧ (∀ x ∈ m, Bd D (X * N) x.2) ∧ (∀ x ∈ c, ∃ s ∈ B, x.1 = Sum.inr s) ∧ N + S.length ≤ 900000 ∧ B.length ≤ 500 ∧
  ∀ v H' m' c' T' late, Kp2 dm dc H H' → OStr v late → DQ FrQ H' dm m' → DQ StepQ H' dc c' → m'.map (·.1) = B.map Sum.inr → (c'.map (·.1)).Nodup → Bfi S b B (mfun m') (cfun c') T' t S.length late → (∀ x ∈ m', Bd D (X * (N + S.length)) x.2) → (∀ x ∈ c', ∃ s ∈ B, x.1 = Sum.inr s) → Q v H'
noncomputable def spRingB : Sp := fun vs H Q _ => ∃ (u : Str) (dc : Addr) (S : List Stp) (c : AL Key Stp) (P0 : Nat), vs = [.str u, .ref dc] ∧ DQ StepQ H dc c ∧ List.length (α := Key × Stp) c ≤ 500 ∧ (∀ j, j ≤ List.length (α := Key × Stp) c → cfun c (itr (bk (cfun c)) j u) ≠ none) ∧ (∀ j, cfun c (itr (bk (cfun c)) j (itr (bk (cfun c)) (List.length (α := Key × Stp) c) u)) ≠ none) ∧
  1 ≤ P0 ∧ P0 ≤ 500 ∧ itr (bk (cfun c)) P0 (itr (bk (cfun c)) (List.length (α := Key × Stp) c) u) = itr (bk (cfun c)) (List.length (α := Key × Stp) c) u ∧ (∀ u st, cfun c u = some st → st ∈ S ∧ st.2.1 = u) ∧ (∀ u q, Cb (cfun c) u u q → 0 < q) ∧
  ∀ l H' R, H l = none → Same H H' → LQ StepQ H' l R → RingOk S R → R.length ≤ 500 → Q (.ref l) H'
noncomputable def spPlayed : Sp := fun vs H Q _ => ∃ (l : Addr) (ws : List Wsh) (D X : Nat), vs = [.ref l] ∧ LQ WishQ H l ws ∧ (∀ w ∈ ws, w.ok) ∧ ws.length ≤ 200 ∧ (∀ w ∈ ws, w.bd D X) ∧ RoomW D X ∧
  (∀ p d H' m, H p = none → H d = none → Same H H' → H' p = some (.tup [.str "moments", .ref d]) → DQ FrQ H' d m → m.map (·.1) = (bfold ws).map (·.1) → (∀ s, mfun (bfold ws) s ≤ mfun m s) → (∀ st ∈ stepsOf ws, mfun m st.1 + st.2.2.1 ≤ mfun m st.2.1) → (∀ s, Wk (stepsOf ws) (mfun (bfold ws)) s (mfun m s)) → (∀ x ∈ m, Bd D (X * 900000) x.2) → Q (.ref p) H') ∧
  (∀ p l' H' R, H p = none → H l' = none → Same H H' → H' p = some (.tup [.str "ring", .ref l']) → LQ StepQ H' l' R → RingOk (stepsOf ws) R → R.length ≤ 500 → Q (.ref p) H')
noncomputable def spCell (K : PySem.W.Frag) : Sp := fun vs H Q _ => ∃ (a : Addr) (ns : List Int) (k : Int), vs = [.ref a, .int k] ∧ SqL K H a (ns.map V.int) ∧ 0 ≤ k ∧ ∀ r, Q (.int r) H
noncomputable def spNumW (K : PySem.W.Frag) : Sp := fun vs H Q _ => ∃ (a : Addr) (ns : List Int) (k : Int), vs = [.ref a, .int k] ∧ SqL K H a (ns.map V.int) ∧ 0 ≤ k ∧ k ≤ 1000 ∧ ∀ r, 0 ≤ r → Q (.int r) H
noncomputable def spLowest : Sp := fun vs H Q _ => ∃ (t b : Int), vs = [.int t, .int b] ∧ 0 < b ∧ Sm 8000 t ∧ Sm 8000 b ∧
  ∀ p, H p = none → Q (.ref p) (upd H p (.tup [.int (lowT t b), .int (lowB t b)]))
noncomputable def spShareW2 : Sp := fun vs H Q _ => ∃ (r : Int), vs = [.int r] ∧ 0 ≤ r ∧ ∀ p t b H', Same H H' → H' p = some (.tup [.int (lowT t b), .int (lowB t b)]) → 0 < b → b ≤ 10 ^ 30 → b.toNat ∣ D0 → -(10 ^ 30) ≤ t → t ≤ 10 ^ 30 → Q (.ref p) H'
noncomputable def spBells (K : PySem.W.Frag) : Sp := fun vs H Q _ => ∃ (a : Addr) (ns : List Int) (mo : Int), vs = [.ref a, .int mo] ∧ SqL K H a (ns.map V.int) ∧ 8 ≤ mo ∧ mo ≤ 100 ∧
  ∀ (l : Addr) (H' : Hp) (i j o e n : Nat), H l = none → Same H H' → i < 4 → j < 4 → 8 ≤ n → n ≤ mo.toNat → H' l = some (.lst ((nmsB i j o e n).map V.str)) → Q (.ref l) H'
noncomputable def spWish2 (K : PySem.W.Frag) : Sp := fun vs H Q _ => ∃ (n : Int) (l : Addr) (U : List Str), vs = [.int n, .ref l] ∧ 0 ≤ n ∧ H l = some (.lst (U.map V.str)) ∧ 8 ≤ U.length ∧ U.length ≤ 100 ∧ U.Nodup ∧ (∀ s ∈ U, PostS s) ∧
  ∀ (v : V) (H' : Hp) (w : Wsh), Same H H' → WishQ H' v w → w.ok → w.inU U → w.bdW2 → Q v H'
noncomputable def spLSteps : Sp := fun vs H Q _ => ∃ (l : Addr) (ws : List Wsh), vs = [.ref l] ∧ LQ WishQ H l ws ∧ ws.length ≤ 300 ∧ ∀ l' H', H l' = none → Same H H' → LQ StepQ H' l' (stepsOf ws) → Q (.ref l') H'
noncomputable def spSumW : Sp := fun vs H Q _ => ∃ (p1 p2 : Addr) (a b c d : Int) (n : Nat), vs = [.ref p1, .ref p2] ∧ H p1 = some (.tup [.int a, .int b]) ∧ H p2 = some (.tup [.int c, .int d]) ∧ Sm n a ∧ Sm n b ∧ Sm n c ∧ Sm n d ∧ n ≤ 50000000 ∧ ∀ p, H p = none → Q (.ref p) (upd H p (.tup [.int (a * d + c * b), .int (b * d)]))
noncomputable def spLessW : Sp := fun vs H Q _ => ∃ (p1 p2 : Addr) (a b c d : Int), vs = [.ref p1, .ref p2] ∧ H p1 = some (.tup [.int a, .int b]) ∧ H p2 = some (.tup [.int c, .int d]) ∧ CMulB a d ∧ CMulB c b ∧ Q (.bl (decide (a * d < c * b))) H
noncomputable def spAlikeW : Sp := fun vs H Q _ => ∃ (p1 p2 : Addr) (a b c d : Int), vs = [.ref p1, .ref p2] ∧ H p1 = some (.tup [.int a, .int b]) ∧ H p2 = some (.tup [.int c, .int d]) ∧ CMulB a d ∧ CMulB c b ∧ Q (.bl (decide (a * d = c * b))) H
noncomputable def spIsLow : Sp := fun vs H Q _ => ∃ (v : V) (q0 : Rat), vs = [v] ∧ FrQ H v q0 ∧ Sz 8000 q0 ∧ ∀ H', Same H H' → Q (.bl true) H'
noncomputable def spBaseW : Sp := fun vs H Q _ => ∃ (l : Addr) (ws : List Wsh), vs = [.ref l] ∧ LQ WishQ H l ws ∧ (∀ w ∈ ws, w.ok) ∧ ws.length ≤ 200 ∧ ∀ d H', H d = none → Same H H' → DQ FrQ H' d (bfold ws) → Q (.ref d) H'
noncomputable def spLeastW : Sp := fun vs H Q _ => ∃ (d l : Addr) (ws : List Wsh) (m : AL Key Rat), vs = [.ref d, .ref l] ∧ DQ FrQ H d m ∧ LQ WishQ H l ws ∧ (∀ w ∈ ws, w.ok) ∧ ws.length ≤ 200 ∧ List.length (α := Key × Rat) (bfold ws) ≤ 60 ∧ m.map (·.1) = (bfold ws).map (·.1) ∧ (∀ s, mfun (bfold ws) s ≤ mfun m s) ∧ (∀ st ∈ stepsOf ws, mfun m st.1 + st.2.2.1 ≤ mfun m st.2.1) ∧ (∀ s, Wk (stepsOf ws) (mfun (bfold ws)) s (mfun m s)) ∧ (∀ x ∈ m, Sz 8000 x.2) ∧ ∀ H', Same H H' → Q (.bl true) H'
noncomputable def spIsRing : Sp := fun vs H Q _ => ∃ (lr lw : Addr) (ws : List Wsh) (R : List Stp), vs = [.ref lr, .ref lw] ∧ LQ StepQ H lr R ∧ LQ WishQ H lw ws ∧ ws.length ≤ 300 ∧ RingOk (stepsOf ws) R ∧ R.length ≤ 500 ∧ (∀ st ∈ R, Sz 1100 st.2.2.1) ∧ ∀ H', Same H H' → Q (.bl true) H'
noncomputable def spEased : Sp := fun vs H Q _ => ∃ (v : V) (w : Wsh) (n : Int), vs = [v, .int n] ∧ WishQ H v w ∧ w.ok ∧ w.bdW2 ∧ ∀ v' w' H', Same H H' → WishQ H' v' w' → w'.ok → w'.bdW2 → w'.bells = w.bells → Q v' H'
noncomputable def spRightW : Sp := fun vs H Q _ => ∃ (p l : Addr) (ws : List Wsh) (a : Addr) (t : Str), vs = [.ref p, .ref l] ∧ H p = some (.tup [.str t, .ref a]) ∧
  ((t = Str.ofString "moments" ∧ ∀ Q', (∀ H', Same H H' → Q' (.bl true) H') → spLeastW [.ref a, .ref l] H Q' E0) ∨ (t = Str.ofString "ring" ∧ ∀ Q', (∀ H', Same H H' → Q' (.bl true) H') → spIsRing [.ref a, .ref l] H Q' E0)) ∧ ∀ H', Same H H' → Q (.bl true) H'
noncomputable def spNoEar : Sp := fun vs H Q _ => ∃ (p1 p2 : Addr) (ws us : List Wsh), vs = [.ref p1, .ref p2] ∧ FdQ H p1 ws ∧ FdQ H p2 (ws ++ us) ∧ (∀ w ∈ ws, w.ok) ∧ ∀ H', Same H H' → Q (.bl true) H'
noncomputable def spLaw (K : PySem.W.Frag) : Sp := fun vs H Q _ => ∃ (a : Addr) (ns : List Int), vs = [.ref a] ∧ SqL K H a (ns.map V.int) ∧ ns.length ≤ 63 ∧ ∀ H', Q (.bl true) H'
section
variable {P : Program} {w : World} {K : PySem.W.Frag} {mg : Str → Option Value} {base : Heap} {k : Nat}
theorem ok_is_whole (T : Bl mg) (d : Df K mg "is_whole" s_is_whole ["thing"]  ) : Okf P w K mg base (k + 1) "is_whole" ["thing"] (spWhole K) := by
  refine Okf.of d sc_is_whole (fun vs H Q E h => ?_) (fun f cdv A outer s H vs Q E hr h => ?_)
  · obtain ⟨x, t, b, c, rfl, _⟩ := h
    rfl
  · obtain ⟨x, t, b, c, rfl, ty, e1, e2, q⟩ := h
    refine ⟨_, (@pss_one _ _ _ (@ps_ret _ _ _ _ (@pe_and _ _ _ _ _ _ _ (@pe_callB _ _ _ _ _ _ _ _ _ (call_isTy (T := "int")) rfl T.z_isinstance bt_isinstance (@pa_cons _ _ _ _ _ (pv 0) (@pa_cons _ _ _ _ _ (@pe_bltn _ _ (v := .ty "int") _ _ rfl T.z_int bt_int rfl (by decide) (by decide)) (@pa_nil _) (by rfl)) (by rfl)) (by decide) (by decide) (by rfl) (by rfl)) (@pe_one _ _ _ _ _ (@pe_not _ _ _ _ (@pe_callB _ _ _ _ _ _ _ _ _ (call_isTy (T := "bool")) rfl T.z_isinstance bt_isinstance (@pa_cons _ _ _ _ _ (pv 0) (@pa_cons _ _ _ _ _ (@pe_bltn _ _ (v := .ty "bool") _ _ rfl T.z_bool bt_bool rfl (by decide) (by decide)) (@pa_nil _) (by rfl)) (by rfl)) (by decide) (by decide) (by rfl) (by rfl))))))), ?_⟩
    walk_at "go"
    refine r_isTy ty e1 ?_
    cases b
    · walk_at "go"
      exact q
    · walk_at "go"
      refine r_isTy ty e2 ?_
      walk_at "go"
      exact q
theorem ok_common_divisor (T : Bl mg) (d : Df K mg "common_divisor" s_common_divisor ["one", "other"]  ) : Okf P w K mg base (k + 1) "common_divisor" ["one", "other"] spGcd := by
  refine Okf.of d sc_common_divisor (fun vs H Q E h => ?_) (fun f cdv A outer s H vs Q E hr h => ?_)
  · obtain ⟨a, b, rfl, _⟩ := h
    rfl
  · obtain ⟨a, b, rfl, q⟩ := h
    refine ⟨_, (@pss_cons _ _ _ _ _ (@ps_while _ _ _ _ _ _ PassesOwn.never (@pt_cmpR _ _ _ _ _ _ _ _ (op_neA hr.units) (pv 1) (@pe_int _ _ _ _) (nomark _)) (@pss_cons _ _ _ _ _ (@ps_set _ _ (i := 2) _ _ _ _ sc_common_divisor.nd rfl (by first | exact Or.inl rfl | exact Or.inr rfl) (@pe_op _ _ _ _ _ _ _ _ op_modN (pv 0) (pv 1)) (by rfl) (by first | exact .inl rfl | exact .inr rfl | assumption)) (@pss_cons _ _ _ _ _ (@ps_set _ _ (i := 0) _ _ _ _ sc_common_divisor.nd rfl (by first | exact Or.inl rfl | exact Or.inr rfl) (pv 1) (by rfl) (by first | exact .inl rfl | exact .inr rfl | assumption)) (@pss_one _ _ _ (@ps_set _ _ (i := 1) _ _ _ _ sc_common_divisor.nd rfl (by first | exact Or.inl rfl | exact Or.inr rfl) (pv 2) (by rfl) (by first | exact .inl rfl | exact .inr rfl | assumption)))))) (@pss_one _ _ _ (@ps_ret _ _ _ _ (@pe_callB _ _ _ _ _ _ _ _ _ c_abs rfl T.z_abs bt_abs (@pa_cons _ _ _ _ _ (pv 0) (@pa_nil _) (by rfl)) (by decide) (by decide) (by rfl) (by rfl))))), ?_⟩
    walk_at "go"
    refine while_by (fun σ H' => ∃ (one other : Int) (o : Option V), σ = [some (.int one), some (.int other), o] ∧ H' = H ∧ Int.gcd one other = Int.gcd a b)
      (fun σ _ => match σ with | [_, some (.int z), _] => z.natAbs | _ => 0) ⟨_, _, _, rfl, rfl, rfl⟩ ?_ ?_
    · rintro σ H' ⟨one, other, o, rfl, rfl, hg⟩
      walk_at "go"
      refine i_d (fun c => ?_) (fun c => ?_)
      · subst c
        walk_at "go"
        rw [Int.gcd_zero_right] at hg
        have e : (if one < 0 then -one else one) = (Int.gcd a b : Int) := by rw [← hg]; split <;> omega
        rw [e]
        exact q
      · walk_at "go"
        refine ⟨⟨_, _, _, rfl, rfl, by rw [gcd_stepN c]; exact hg⟩, ?_⟩
        show (one.fmod other).natAbs < other.natAbs
        exact fmod_lt c
    · intro σ H Q Q' hQ h
      obtain ⟨v, e1, h⟩ := h
      rcases h with ⟨e2, b', e3, q'⟩ | ⟨d, e, e2, e3, e4, e5, b', e6, q'⟩
      · exact ⟨v, e1, .inl ⟨e2, b', e3, hQ _ _ q'⟩⟩
      · exact ⟨v, e1, .inr ⟨d, e, e2, e3, e4, e5, b', e6, hQ _ _ q'⟩⟩
theorem ok_is_fraction (T : Bl mg) (d : Df K mg "is_fraction" s_is_fraction ["thing"]  ) (o_common_divisor : Okf P w K mg base k "common_divisor" ["one", "other"] spGcd) (o_is_whole : Okf P w K mg base k "is_whole" ["thing"] (spWhole K)) : Okf P w K mg base (k + 1) "is_fraction" ["thing"] (spIsFrac K) := by
  refine Okf.of d sc_is_fraction (fun vs H Q E h => ?_) (fun f cdv A outer s H vs Q E hr h => ?_)
  · obtain ⟨x, r, rfl, _⟩ := h
    rfl
  · obtain ⟨x, r, rfl, h, q⟩ := h
    refine ⟨_, (@pss_cons _ _ _ _ _ (@ps_if _ _ _ _ _ _ _ _ (@PW.pt _ _ _ (@pw_or _ _ _ _ _ _ _ (@pt_not _ _ _ _ (@pt_val _ _ _ (@pe_callB _ _ _ _ _ _ _ _ _ (call_isTy (T := "tuple")) rfl T.z_isinstance bt_isinstance (@pa_cons _ _ _ _ _ (pv 0) (@pa_cons _ _ _ _ _ (@pe_bltn _ _ (v := .ty "tuple") _ _ rfl T.z_tuple bt_tuple rfl (by decide) (by decide)) (@pa_nil _) (by rfl)) (by rfl)) (by decide) (by decide) (by rfl) (by rfl)) (by intro _; rfl))) (@pw_or1 _ _ _ _ (@pt_cmpR _ _ _ _ _ _ _ _ (op_neA hr.units) (@pe_callB _ _ _ _ _ _ _ _ _ c_len rfl T.z_len bt_len (@pa_cons _ _ _ _ _ (pv 0) (@pa_nil _) (by rfl)) (by decide) (by decide) (by rfl) (by rfl)) (@pe_int _ _ _ _) (nomark _))))) (@pss_one _ _ _ (@ps_ret _ _ _ _ (@pe_bl _ _ _ _))) (@pss_nil _)) (@pss_cons _ _ _ _ _ (@ps_if _ _ _ _ _ _ _ _ (@PW.pt _ _ _ (@pw_or _ _ _ _ _ _ _ (@pt_not _ _ _ _ (@pt_val _ _ _ (@pe_callO _ _ _ _ _ _ _ _ _ _ o_is_whole hr rfl (@pa_cons _ _ _ _ _ (@pe_ix _ _ _ _ _ _ _ ix_LT (pv 0) (@pe_int _ _ _ _) (fun _ _ => rfl)) (@pa_nil _) (by rfl)) (by decide) (by rfl) (by rfl)) (by intro _; rfl))) (@pw_or1 _ _ _ _ (@pt_not _ _ _ _ (@pt_val _ _ _ (@pe_callO _ _ _ _ _ _ _ _ _ _ o_is_whole hr rfl (@pa_cons _ _ _ _ _ (@pe_ix _ _ _ _ _ _ _ ix_LT (pv 0) (@pe_int _ _ _ _) (fun _ _ => rfl)) (@pa_nil _) (by rfl)) (by decide) (by rfl) (by rfl)) (by intro _; rfl)))))) (@pss_one _ _ _ (@ps_ret _ _ _ _ (@pe_bl _ _ _ _))) (@pss_nil _)) (@pss_one _ _ _ (@ps_ret _ _ _ _ (@pe_and _ _ _ _ _ _ _ (@pe_cmpR _ _ _ _ _ _ _ _ op_ge (@pe_ix _ _ _ _ _ _ _ ix_LT (pv 0) (@pe_int _ _ _ _) (fun _ _ => rfl)) (@pe_int _ _ _ _) (nomark _)) (@pe_one _ _ _ _ _ (@pe_cmpR _ _ _ _ _ _ _ _ (op_eqA hr.units) (@pe_callO _ _ _ _ _ _ _ _ _ _ o_common_divisor hr rfl (@pa_cons _ _ _ _ _ (@pe_ix _ _ _ _ _ _ _ ix_LT (pv 0) (@pe_int _ _ _ _) (fun _ _ => rfl)) (@pa_cons _ _ _ _ _ (@pe_ix _ _ _ _ _ _ _ ix_LT (pv 0) (@pe_int _ _ _ _) (fun _ _ => rfl)) (@pa_nil _) (by rfl)) (by rfl)) (by decide) (by rfl) (by rfl)) (@pe_int _ _ _ _) (nomark _)))))))), ?_⟩
    rcases h with ⟨⟨t, ty, e1⟩, rfl⟩ | ⟨p, xs, rfl, h1, h2, rfl⟩ | ⟨p, v, w', rfl, h1, fv, fw, hsm, rfl⟩
    · walk_at "go"
      refine r_isTy ty e1 ?_
      walk_at "go"
      exact q
    · walk_at "go"
      refine r_isTy (.tup h1) kit_tuple_tuple ?_
      walk_at "go"
      exact q
    · walk_at "go"
      refine r_isTy (.tup h1) kit_tuple_tuple ?_
      walk_at "go"
      refine i_d (fun _ => ?_) (fun c => absurd rfl c)
      walk_at "go"
      obtain ⟨t1, b1, c1, ty1, k1, k2, e1⟩ := flat_ty (K := K) (H := H) fv
      refine ⟨v, t1, b1, c1, rfl, ty1, k1, k2, ?_⟩
      rw [e1]
      walk_at "go"
      cases v with
      | int a =>
        refine i_bT rfl ?_
        walk_at "go"
        obtain ⟨t2, b2, c2, ty2, k3, k4, e2⟩ := flat_ty (K := K) (H := H) fw
        refine ⟨w', t2, b2, c2, rfl, ty2, k3, k4, ?_⟩
        rw [e2]
        walk_at "go"
        cases w' with
        | int b =>
          refine i_bT rfl ?_
          walk_at "go"
          refine i_d (fun c => ?_) (fun c => ?_)
          · walk_at "go"
            refine ⟨a, b, rfl, ?_⟩
            walk_at "go"
            have e : decide ((Int.gcd a b : Int) = 1) = frV (.int a) (.int b) := by
              show _ = (decide (1 ≤ b) && decide (Int.gcd a b = 1))
              rw [decide_eq_true c, Bool.true_and]
              by_cases hg : Int.gcd a b = 1
              · rw [decide_eq_true hg, decide_eq_true (by omega)]
              · rw [decide_eq_false hg, decide_eq_false (by omega)]
            rw [e]
            exact q
          · walk_at "go"
            have e : frV (.int a) (.int b) = false := by
              show (decide (1 ≤ b) && decide (Int.gcd a b = 1)) = false
              rw [decide_eq_false c, Bool.false_and]
            rw [e] at q
            exact q
        | non => refine i_bF rfl ?_; walk_at "go"; exact q
        | bl _ => refine i_bF rfl ?_; walk_at "go"; exact q
        | str _ => refine i_bF rfl ?_; walk_at "go"; exact q
        | _ => exact absurd (show false = true from fw) Bool.false_ne_true
      | non => refine i_bF rfl ?_; walk_at "go"; exact q
      | bl _ => refine i_bF rfl ?_; walk_at "go"; exact q
      | str _ => refine i_bF rfl ?_; walk_at "go"; exact q
      | _ => exact absurd (show false = true from fv) Bool.false_ne_true
theorem ok_added (T : Bl mg) (d : Df K mg "added" s_added ["one", "other"]  ) (o_common_divisor : Okf P w K mg base k "common_divisor" ["one", "other"] spGcd) : Okf P w K mg base (k + 1) "added" ["one", "other"] spAddQ := by
  refine Okf.of d sc_added (fun vs H Q E h => ?_) (fun f cdv A outer s H vs Q E hr h => ?_)
  · obtain ⟨x, y, q1, q2, rfl, _⟩ := h
    rfl
  · obtain ⟨x, y, q1, q2, rfl, ⟨p1, rfl, h1⟩, ⟨p2, rfl, h2⟩, z1, z2, q⟩ := h
    refine ⟨_, (@pss_cons _ _ _ _ _ (@ps_set _ _ (i := 2) _ _ _ _ sc_added.nd rfl (by first | exact Or.inl rfl | exact Or.inr rfl) (@pe_callO _ _ _ _ _ _ _ _ _ _ o_common_divisor hr rfl (@pa_cons _ _ _ _ _ (@pe_ix _ _ _ _ _ _ _ ix_LT (pv 0) (@pe_int _ _ _ _) (fun _ _ => rfl)) (@pa_cons _ _ _ _ _ (@pe_ix _ _ _ _ _ _ _ ix_LT (pv 1) (@pe_int _ _ _ _) (fun _ _ => rfl)) (@pa_nil _) (by rfl)) (by rfl)) (by decide) (by rfl) (by rfl)) (by rfl) (by first | exact .inl rfl | exact .inr rfl | assumption)) (@pss_cons _ _ _ _ _ (@ps_set _ _ (i := 3) _ _ _ _ sc_added.nd rfl (by first | exact Or.inl rfl | exact Or.inr rfl) (@pe_op _ _ _ _ _ _ _ _ op_fdivB (@pe_ix _ _ _ _ _ _ _ ix_LT (pv 1) (@pe_int _ _ _ _) (fun _ _ => rfl)) (pv 2)) (by rfl) (by first | exact .inl rfl | exact .inr rfl | assumption)) (@pss_cons _ _ _ _ _ (@ps_set _ _ (i := 4) _ _ _ _ sc_added.nd rfl (by first | exact Or.inl rfl | exact Or.inr rfl) (@pe_op _ _ _ _ _ _ _ _ op_addA (@pe_op _ _ _ _ _ _ _ _ op_mulB (@pe_ix _ _ _ _ _ _ _ ix_LT (pv 0) (@pe_int _ _ _ _) (fun _ _ => rfl)) (pv 3)) (@pe_op _ _ _ _ _ _ _ _ op_mulB (@pe_ix _ _ _ _ _ _ _ ix_LT (pv 1) (@pe_int _ _ _ _) (fun _ _ => rfl)) (@pe_op _ _ _ _ _ _ _ _ op_fdivB (@pe_ix _ _ _ _ _ _ _ ix_LT (pv 0) (@pe_int _ _ _ _) (fun _ _ => rfl)) (pv 2)))) (by rfl) (by first | exact .inl rfl | exact .inr rfl | assumption)) (@pss_cons _ _ _ _ _ (@ps_set _ _ (i := 5) _ _ _ _ sc_added.nd rfl (by first | exact Or.inl rfl | exact Or.inr rfl) (@pe_callO _ _ _ _ _ _ _ _ _ _ o_common_divisor hr rfl (@pa_cons _ _ _ _ _ (pv 4) (@pa_cons _ _ _ _ _ (pv 2) (@pa_nil _) (by rfl)) (by rfl)) (by decide) (by rfl) (by rfl)) (by rfl) (by first | exact .inl rfl | exact .inr rfl | assumption)) (@pss_one _ _ _ (@ps_ret _ _ _ _ (@pe_tup _ _ _ _ _ (@pa_cons _ _ _ _ _ (@pe_op _ _ _ _ _ _ _ _ op_fdivB (pv 4) (pv 5)) (@pa_cons _ _ _ _ _ (@pe_op _ _ _ _ _ _ _ _ op_mulB (@pe_op _ _ _ _ _ _ _ _ op_fdivB (@pe_ix _ _ _ _ _ _ _ ix_LT (pv 0) (@pe_int _ _ _ _) (fun _ _ => rfl)) (pv 5)) (pv 3)) (@pa_nil _) (by rfl)) (by rfl))))))))), ?_⟩
    have hq1 := q1.den_pos
    have hq2 := q2.den_pos
    obtain ⟨s0, k0, sb, ks, ⟨gp, cop, wr⟩, zu, zv, zf, zb⟩ := add_parts (a := q1.num) (b := q1.den) (c := q2.num) (d := q2.den) (by omega) (by omega) q1.reduced q2.reduced rfl rfl rfl rfl rfl
    have M : ∀ {m n : Nat} {i j : Int}, Sm m i → Sm n j → m ≤ 60000000 → n ≤ 60000000 → CMulB i j := fun h1 h2 h3 h4 => CMulB.s h1 h2 h3 h4
    have sb1 : Sm 8000 (q1.den : Int) := z1.2
    have sb2 : Sm 8000 (q2.den : Int) := z2.2
    walk_at "go"
    refine ⟨_, _, rfl, ?_⟩
    generalize (Int.gcd (q1.den : Int) (q2.den : Int) : Int) = s at s0 k0 sb ks gp cop wr zu zv zf zb ⊢
    have hs : Sm 8000 s := Sm.le (by omega) sb1
    have hds : ∀ z, CDivB z s := fun _ => ⟨by omega, hs⟩
    walk_at "go"
    refine r_fdiv (hds _) ?_
    generalize (q2.den : Int).fdiv s = u at k0 ks gp cop wr zu zv zf zb ⊢
    have hu : Sm 8000 u := Sm.le zu sb2
    walk_at "go"
    refine r_mul (M (m := 8000) z1.1 hu (by decide) (by decide)) ?_
    walk_at "go"
    refine r_fdiv (hds _) ?_
    generalize (q1.den : Int).fdiv s = v at k0 ks gp cop wr zv zf zb ⊢
    have hv : Sm 8000 v := Sm.le zv sb1
    walk_at "go"
    refine r_mul (M (m := 8000) z2.1 hv (by decide) (by decide)) ?_
    walk_at "go"
    refine ⟨_, s, rfl, ?_⟩
    generalize (Int.gcd (q1.num * u + q2.num * v) s : Int) = k' at k0 ks gp cop wr zf zb ⊢
    have hk : Sm 8000 k' := Sm.le (by omega) hs
    have hdk : ∀ z, CDivB z k' := fun _ => ⟨by omega, hk⟩
    walk_at "go"
    refine r_fdiv (hdk _) ?_
    walk_at "go"
    refine r_fdiv (hdk _) ?_
    walk_at "go"
    have hbk : Sm 8000 ((q1.den : Int).fdiv k') := Sm.le zb sb1
    refine r_mul (M hbk hu (by decide) (by decide)) ?_
    walk_at "go"
    refine r_tupK fun p hp => ?_
    walk_at "go"
    have e := rat_of (t := q1.num * q2.den + q2.num * q1.den) (b := q1.den * q2.den) (Int.mul_ne_zero (by omega) (by omega)) gp cop wr
    rw [← add_divInt] at e
    refine q _ _ ⟨p, rfl, ?_⟩ (Same.new hp)
    rw [e.1, e.2]
    exact upd_same
theorem ok_is_less (T : Bl mg) (d : Df K mg "is_less" s_is_less ["one", "other"]  ) : Okf P w K mg base (k + 1) "is_less" ["one", "other"] spLessQ := by
  refine Okf.of d sc_is_less (fun vs H Q E h => ?_) (fun f cdv A outer s H vs Q E hr h => ?_)
  · obtain ⟨x, y, q1, q2, rfl, _⟩ := h
    rfl
  · obtain ⟨x, y, q1, q2, rfl, ⟨p1, rfl, h1⟩, ⟨p2, rfl, h2⟩, z1, z2, q⟩ := h
    refine ⟨_, (@pss_one _ _ _ (@ps_ret _ _ _ _ (@pe_cmpR _ _ _ _ _ _ _ _ op_lt (@pe_op _ _ _ _ _ _ _ _ op_mulB (@pe_ix _ _ _ _ _ _ _ ix_LT (pv 0) (@pe_int _ _ _ _) (fun _ _ => rfl)) (@pe_ix _ _ _ _ _ _ _ ix_LT (pv 1) (@pe_int _ _ _ _) (fun _ _ => rfl))) (@pe_op _ _ _ _ _ _ _ _ op_mulB (@pe_ix _ _ _ _ _ _ _ ix_LT (pv 1) (@pe_int _ _ _ _) (fun _ _ => rfl)) (@pe_ix _ _ _ _ _ _ _ ix_LT (pv 0) (@pe_int _ _ _ _) (fun _ _ => rfl))) (nomark _)))), ?_⟩
    have M : ∀ {i j : Int}, i.natAbs < 2 ^ 8000 → j.natAbs < 2 ^ 8000 → CMulB i j := fun h1 h2 => CMulB.s (m := 8000) (n := 8000) h1 h2 (by decide) (by decide)
    walk_at "go"
    refine r_mul (M z1.1 z2.2) ?_
    walk_at "go"
    refine r_mul (M z2.1 z1.2) ?_
    walk_at "go"
    rw [less_iff]
    exact q
theorem ok_is_moment (T : Bl mg) (d : Df K mg "is_moment" s_is_moment ["thing"]  ) (o_is_fraction : Okf P w K mg base k "is_fraction" ["thing"] (spIsFrac K)) : Okf P w K mg base (k + 1) "is_moment" ["thing"] (spMomQ K) := by
  refine Okf.of d sc_is_moment (fun vs H Q E h => ?_) (fun f cdv A outer s H vs Q E hr h => ?_)
  · obtain ⟨x, b, rfl, _⟩ := h
    rfl
  · obtain ⟨x, b, rfl, h, q⟩ := h
    refine ⟨_, (@pss_one _ _ _ (@ps_ret _ _ _ _ (@pe_and _ _ _ _ _ _ _ (@pe_callO _ _ _ _ _ _ _ _ _ _ o_is_fraction hr rfl (@pa_cons _ _ _ _ _ (pv 0) (@pa_nil _) (by rfl)) (by decide) (by rfl) (by rfl)) (@pe_one _ _ _ _ _ (@pe_cmpR _ _ _ _ _ _ _ _ op_ge (@pe_ix _ _ _ _ _ _ _ ix_LT (pv 0) (@pe_int _ _ _ _) (fun _ _ => rfl)) (@pe_int _ _ _ _) (nomark _)))))), ?_⟩
    cases h with
    | no h =>
      walk_at "go"
      refine ⟨_, false, rfl, h, ?_⟩
      walk_at "go"
      exact q
    | @fr p a b h hf sa sb =>
      walk_at "go"
      refine ⟨_, true, rfl, .inr (.inr ⟨p, _, _, rfl, h, rfl, rfl, ?_, hf.symm⟩), ?_⟩
      · intro a' b' e1 e2
        cases e1
        cases e2
        exact ⟨sa, sb⟩
      walk_at "go"
      exact q
theorem ok_is_part (T : Bl mg) (d : Df K mg "is_part" s_is_part ["text"]  ) {tk_LETTERS : Tok} (g_LETTERS : mg "LETTERS" = some (.str "abcdefghijklmnopqrstuvwxyz" tk_LETTERS)) {tk_MOST_LETTERS : Tok} (g_MOST_LETTERS : mg "MOST_LETTERS" = some (.int 8 tk_MOST_LETTERS)) : Okf P w K mg base (k + 1) "is_part" ["text"] spPart := by
  refine Okf.of d sc_is_part (fun vs H Q E h => ?_) (fun f cdv A outer s H vs Q E hr h => ?_)
  · obtain ⟨z, rfl, _⟩ := h
    rfl
  · obtain ⟨z, rfl, hz, q⟩ := h
    refine ⟨_, (@pss_one _ _ _ (@ps_ret _ _ _ _ (@pe_and _ _ _ _ _ _ _ (@pe_chain _ _ _ _ _ _ _ _ _ _ _ _ op_le op_le (@pe_int _ _ _ _) (@pe_callB _ _ _ _ _ _ _ _ _ c_len rfl T.z_len bt_len (@pa_cons _ _ _ _ _ (pv 0) (@pa_nil _) (by rfl)) (by decide) (by decide) (by rfl) (by rfl)) (@pe_glob _ _ (v := (.int 8)) _ _ rfl g_MOST_LETTERS ⟨_, rfl⟩ (by decide)) (by with_unfolding_all rfl)) (@pe_one _ _ _ _ _ (@pe_callB _ _ _ _ _ _ _ _ _ (c_allB rfl) rfl T.z_all bt_all (@pa_cons _ _ _ _ _ (@pe_comp _ _ _ _ _ _ _ _ _ _ _ _ _ _ (@comp_ck _ _ (sc := defScope s_is_part) (N := ["text"]) (tn := ["sign"]) (names := []) (is := []) rfl rfl (by decide +kernel) (by decide +kernel) rfl (by decide +kernel) rfl (by decide +kernel) (by decide +kernel) (by decide +kernel)) rfl (@pi_signs _ _ _ _ (pv 0)) (fun _ _ _ _ => (@pg_name _ _ (i := 0) _ (show (["sign"] : List Str).Nodup by decide +kernel) rfl (Or.inl rfl) (Or.inr rfl))) (fun _ _ _ _ => (@pe_cmpR _ _ _ _ _ _ _ _ op_inTx (pv 0) (@pe_glob _ _ (v := (.str "abcdefghijklmnopqrstuvwxyz")) _ _ rfl g_LETTERS ⟨_, rfl⟩ (by decide)) (by with_unfolding_all rfl))) (fun _ _ _ _ => (@pts_none _)) (by intro _; rfl)) (@pa_nil _) (by rfl)) (by decide) (by decide) (by rfl) (by rfl)))))), ?_⟩
    walk_at "go"
    have hzs : z.length ≤ sizeLine := by rw [sizeLine_eq]; omega
    refine r_lens hzs ?_
    walk_at "go"
    refine i_d (fun c1 => ?_) (fun c1 => ?_)
    · walk_at "go"
      refine i_d (fun c2 => ?_) (fun c2 => ?_)
      · walk_at "go"
        refine ⟨z, rfl, ?_⟩
        refine r_compS hz (fun acc i ys G => Kp acc H G ∧ ys = (z.cps.toList.take i).map fun c => V.bl (decide (97 ≤ c) && decide (c < 123))) (fun acc h0 => ⟨Kp.new h0, rfl⟩) ?_ ?_
        · intro acc i ys G c h0 hx hyl hG ⟨kp, e⟩
          walk_at "go"
          have hx' : z.cps.toList[i]? = some c := by simpa using hx
          have hi : i < z.cps.toList.length := (List.getElem?_eq_some_iff.mp hx').1
          refine c_next (by rw [len_cps]; exact hi) hyl hG ⟨Kp.trans kp Kp.upd, ?_⟩
          have e2 : z.cps.toList[i] = c := by
            rw [List.getElem?_eq_getElem hi] at hx'
            exact Option.some.inj hx'
          rw [List.take_succ_eq_append_getElem hi, List.map_append, ← e, e2, letters_mem]
          rfl
        · intro acc ys G h0 hG hl ⟨kp, e⟩
          walk_at "go"
          rw [len_cps, List.take_length] at e
          subst e
          have e3 : (z.cps.toList.map fun c => V.bl (decide (97 ≤ c) && decide (c < 123))) = (z.cps.toList.map fun c => (decide (97 ≤ c) && decide (c < 123))).map V.bl := by rw [List.map_map]; rfl
          rw [e3] at hG
          refine r_allB hG ?_
          walk_at "go"
          have e4 : (z.cps.toList.map fun c => (decide (97 ≤ c) && decide (c < 123))).all id = partB z := by
            unfold partB
            rw [decide_eq_true (show 1 ≤ z.length by omega), decide_eq_true (show z.length ≤ 8 by omega), Bool.and_true, Bool.true_and, List.all_map]
            rfl
          rw [e4]
          exact q _ (Same.kpn h0 (Same.refl _) kp)
      · walk_at "go"
        have e : partB z = false := by
          unfold partB
          rw [decide_eq_false (show ¬ z.length ≤ 8 by omega), Bool.and_false, Bool.false_and]
        rw [e] at q
        exact q _ (Same.refl _)
    · walk_at "go"
      have e : partB z = false := by
        unfold partB
        rw [decide_eq_false (show ¬ 1 ≤ z.length by omega), Bool.false_and, Bool.false_and]
      rw [e] at q
      exact q _ (Same.refl _)
theorem ok_is_post (T : Bl mg) (d : Df K mg "is_post" s_is_post ["thing"]  ) {tk_MOST_PARTS : Tok} (g_MOST_PARTS : mg "MOST_PARTS" = some (.int 4 tk_MOST_PARTS)) (o_is_part : Okf P w K mg base k "is_part" ["text"] spPart) : Okf P w K mg base (k + 1) "is_post" ["thing"] (spPost K) := by
  refine Okf.of d sc_is_post (fun vs H Q E h => ?_) (fun f cdv A outer s H vs Q E hr h => ?_)
  · obtain ⟨x, b, rfl, _⟩ := h
    rfl
  · obtain ⟨x, b, rfl, h, q⟩ := h
    refine ⟨_, (@pss_cons _ _ _ _ _ (@ps_if _ _ _ _ _ _ _ _ (@pt_not _ _ _ _ (@pt_val _ _ _ (@pe_callB _ _ _ _ _ _ _ _ _ (call_isTy (T := "str")) rfl T.z_isinstance bt_isinstance (@pa_cons _ _ _ _ _ (pv 0) (@pa_cons _ _ _ _ _ (@pe_bltn _ _ (v := .ty "str") _ _ rfl T.z_str bt_str rfl (by decide) (by decide)) (@pa_nil _) (by rfl)) (by rfl)) (by decide) (by decide) (by rfl) (by rfl)) (by intro _; rfl))) (@pss_one _ _ _ (@ps_ret _ _ _ _ (@pe_bl _ _ _ _))) (@pss_nil _)) (@pss_cons _ _ _ _ _ (@ps_set _ _ (i := 1) _ _ _ _ sc_is_post.nd rfl (by first | exact Or.inl rfl | exact Or.inr rfl) (@pe_bm _ _ _ _ _ _ _ _ _ _ _ _ PySem.F.plainAttrs_str PySem.F.slot_str_split PySem.F.type_str_split mt_split (pv 0) (@pa_cons _ _ _ _ _ (@pe_str _ _ _ _) (@pa_nil _) (by rfl)) (by rfl) (by rfl) (by rfl) (by rfl) (by rfl)) (by rfl) (by first | exact .inl rfl | exact .inr rfl | assumption)) (@pss_one _ _ _ (@ps_ret _ _ _ _ (@pe_and _ _ _ _ _ _ _ (@pe_cmpR _ _ _ _ _ _ _ _ op_le (@pe_callB _ _ _ _ _ _ _ _ _ c_len rfl T.z_len bt_len (@pa_cons _ _ _ _ _ (pv 1) (@pa_nil _) (by rfl)) (by decide) (by decide) (by rfl) (by rfl)) (@pe_glob _ _ (v := (.int 4)) _ _ rfl g_MOST_PARTS ⟨_, rfl⟩ (by decide)) (nomark _)) (@pe_one _ _ _ _ _ (@pe_callB _ _ _ _ _ _ _ _ _ (c_allB rfl) rfl T.z_all bt_all (@pa_cons _ _ _ _ _ (@pe_comp _ _ _ _ _ _ _ _ _ _ _ _ _ _ (@comp_ck _ _ (sc := defScope s_is_post) (N := ["thing", "parts"]) (tn := ["part"]) (names := []) (is := []) rfl rfl (by decide +kernel) (by decide +kernel) rfl (by decide +kernel) rfl (by decide +kernel) (by decide +kernel) (by decide +kernel)) rfl (@pi_list _ _ _ _ (pv 1)) (fun _ _ _ _ => (@pg_name _ _ (i := 0) _ (show (["part"] : List Str).Nodup by decide +kernel) rfl (Or.inl rfl) (Or.inr rfl))) (fun _ _ _ _ => (@pe_callO _ _ _ _ _ _ _ _ _ _ o_is_part hr rfl (@pa_cons _ _ _ _ _ (pv 0) (@pa_nil _) (by rfl)) (by decide) (by rfl) (by rfl))) (fun _ _ _ _ => (@pts_none _)) (by intro _; rfl)) (@pa_nil _) (by rfl)) (by decide) (by decide) (by rfl) (by rfl)))))))), ?_⟩
    rcases h with ⟨z, rfl, hz, rfl⟩ | ⟨⟨t, ty, e1⟩, rfl⟩
    · walk_at "go"
      refine r_isTy (.str z) kit_str_str ?_
      walk_at "go"
      have ep : ("." : Str) = ⟨#[46]⟩ := by decide +kernel
      rw [ep]
      refine r_split (z := z) (y := ⟨#[46]⟩) (by decide) (by omega) fun l hl => ?_
      have hps := post_split z
      have hsh : ∀ p ∈ Txt.split z ⟨#[46]⟩, p.length ≤ 1000 := fun p hp => Nat.le_trans (sp_short hp) hz
      have hsl := sp_few z ⟨#[46]⟩
      generalize Txt.split z ⟨#[46]⟩ = ps at hps hsh hsl ⊢
      walk_at "go"
      rw [List.length_map]
      refine i_d (fun c => ?_) (fun c => ?_)
      · walk_at "go"
        refine r_listK (SqL.of upd_same) ?_
        refine r_compL (xs := ps.map V.str) (by rw [List.length_map]; omega) (fun acc i ys G => Kp acc (upd H l (.lst (ps.map V.str))) G ∧ ys = (ps.take i).map fun p => V.bl (partB p)) (fun acc h0 => ⟨Kp.new h0, rfl⟩) ?_ ?_ ?_
        · intro acc i ys G h0 _ ⟨kp, _⟩
          exact SqL.of (kp _ _ (ne_of_none upd_same h0) upd_same)
        · intro acc i ys G x h0 hx hyl hG ⟨kp, e⟩
          rw [List.getElem?_map] at hx
          cases hy : ps[i]? with
          | none => rw [hy] at hx; cases hx
          | some y =>
            rw [hy] at hx
            cases (Option.some.inj hx : V.str y = x)
            walk_at "go"
            refine ⟨y, rfl, hsh y (List.mem_of_getElem? hy), fun G1 s1 => ?_⟩
            have hi : i < ps.length := (List.getElem?_eq_some_iff.mp hy).1
            refine c_next (by rw [List.length_map]; exact hi) hyl (s1 _ _ hG) ⟨Kp.trans (Kp.trans kp s1.kp) Kp.upd, ?_⟩
            have e2 : ps[i] = y := by
              rw [List.getElem?_eq_getElem hi] at hy
              exact Option.some.inj hy
            rw [List.take_succ_eq_append_getElem hi, List.map_append, ← e, e2]
            rfl
        · intro acc ys G h0 hG hyl ⟨kp, e⟩
          rw [List.length_map, List.take_length] at e
          subst e
          walk_at "go"
          have e3 : (ps.map fun p => V.bl (partB p)) = (ps.map partB).map V.bl := by rw [List.map_map]; rfl
          rw [e3] at hG
          refine r_allB hG ?_
          walk_at "go"
          have e4 : (ps.map partB).all id = postB z := by
            rw [hps, decide_eq_true (show ps.length ≤ 4 by omega), Bool.true_and, List.all_map]
            rfl
          rw [e4]
          exact q _ ((Same.new hl).trans (Same.kpn h0 (Same.refl _) kp))
      · walk_at "go"
        rw [decide_eq_false (show ¬ ps.length ≤ 4 by omega), Bool.false_and] at hps
        rw [hps] at q
        exact q _ (Same.new hl)
    · walk_at "go"
      refine r_isTy ty e1 ?_
      walk_at "go"
      exact q _ (Same.refl _)
theorem ok_is_pair (T : Bl mg) (d : Df K mg "is_pair" s_is_pair ["one", "other"]  ) (o_is_post : Okf P w K mg base k "is_post" ["thing"] (spPost K)) : Okf P w K mg base (k + 1) "is_pair" ["one", "other"] (spPairQ K) := by
  refine Okf.of d sc_is_pair (fun vs H Q E h => ?_) (fun f cdv A outer s H vs Q E hr h => ?_)
  · obtain ⟨x, y, b, rfl, _⟩ := h
    rfl
  · obtain ⟨x, y, b, rfl, h, q⟩ := h
    refine ⟨_, (@pss_one _ _ _ (@ps_ret _ _ _ _ (@pe_and _ _ _ _ _ _ _ (@pe_callO _ _ _ _ _ _ _ _ _ _ o_is_post hr rfl (@pa_cons _ _ _ _ _ (pv 0) (@pa_nil _) (by rfl)) (by decide) (by rfl) (by rfl)) (@pe_and _ _ _ _ _ _ _ (@pe_callO _ _ _ _ _ _ _ _ _ _ o_is_post hr rfl (@pa_cons _ _ _ _ _ (pv 1) (@pa_nil _) (by rfl)) (by decide) (by rfl) (by rfl)) (@pe_one _ _ _ _ _ (@pe_cmpR _ _ _ _ _ _ _ _ (op_neA hr.units) (pv 0) (pv 1) (nomark _))))))), ?_⟩
    cases h with
    | one h =>
      walk_at "go"
      refine ⟨_, false, rfl, h, fun H1 s1 => ?_⟩
      walk_at "go"
      exact q _ s1
    | two hx hy =>
      walk_at "go"
      refine ⟨_, true, rfl, hx, fun H1 s1 => ?_⟩
      walk_at "go"
      refine ⟨_, false, rfl, hy.sm s1, fun H2 s2 => ?_⟩
      walk_at "go"
      exact q _ (s1.trans s2)
    | @both s1 s2 hx hy =>
      walk_at "go"
      refine ⟨_, true, rfl, hx, fun H1 e1 => ?_⟩
      walk_at "go"
      refine ⟨_, true, rfl, hy.sm e1, fun H2 e2 => ?_⟩
      walk_at "go"
      have e : (!(s1 == s2)) = !decide (s1 = s2) := by by_cases e : s1 = s2 <;> simp [e]
      first
      | exact q _ (e1.trans e2)
      | (rw [e]; exact q _ (e1.trans e2))
set_option maxHeartbeats 0 in
theorem ok_is_wish (T : Bl mg) (d : Df K mg "is_wish" s_is_wish ["thing"]  ) (o_is_pair : Okf P w K mg base k "is_pair" ["one", "other"] (spPairQ K)) (o_is_moment : Okf P w K mg base k "is_moment" ["thing"] (spMomQ K)) (o_is_post : Okf P w K mg base k "is_post" ["thing"] (spPost K)) (o_is_fraction : Okf P w K mg base k "is_fraction" ["thing"] (spIsFrac K)) : Okf P w K mg base (k + 1) "is_wish" ["thing"] (spIsWish K) := by
  refine Okf.of d sc_is_wish (fun vs H Q E h => ?_) (fun f cdv A outer s H vs Q E hr h => ?_)
  · obtain ⟨x, b, rfl, _⟩ := h
    rfl
  · obtain ⟨x, b, rfl, h, q⟩ := h
    refine ⟨_, (@pss_cons _ _ _ _ _ (@ps_if _ _ _ _ _ _ _ _ (@PW.pt _ _ _ (@pw_or _ _ _ _ _ _ _ (@pt_not _ _ _ _ (@pt_val _ _ _ (@pe_callB _ _ _ _ _ _ _ _ _ (call_isTy (T := "tuple")) rfl T.z_isinstance bt_isinstance (@pa_cons _ _ _ _ _ (pv 0) (@pa_cons _ _ _ _ _ (@pe_bltn _ _ (v := .ty "tuple") _ _ rfl T.z_tuple bt_tuple rfl (by decide) (by decide)) (@pa_nil _) (by rfl)) (by rfl)) (by decide) (by decide) (by rfl) (by rfl)) (by intro _; rfl))) (@pw_or _ _ _ _ _ _ _ (@pt_cmpR _ _ _ _ _ _ _ _ op_notIn_seq (@pe_callB _ _ _ _ _ _ _ _ _ c_len rfl T.z_len bt_len (@pa_cons _ _ _ _ _ (pv 0) (@pa_nil _) (by rfl)) (by decide) (by decide) (by rfl) (by rfl)) (@pe_tup _ _ _ _ _ (@pa_cons _ _ _ _ _ (@pe_int _ _ _ _) (@pa_cons _ _ _ _ _ (@pe_int _ _ _ _) (@pa_nil _) (by rfl)) (by rfl))) (by with_unfolding_all rfl)) (@pw_or1 _ _ _ _ (@pt_not _ _ _ _ (@pt_val _ _ _ (@pe_callB _ _ _ _ _ _ _ _ _ (call_isTy (T := "str")) rfl T.z_isinstance bt_isinstance (@pa_cons _ _ _ _ _ (@pe_ix _ _ _ _ _ _ _ ix_LT (pv 0) (@pe_int _ _ _ _) (fun _ _ => rfl)) (@pa_cons _ _ _ _ _ (@pe_bltn _ _ (v := .ty "str") _ _ rfl T.z_str bt_str rfl (by decide) (by decide)) (@pa_nil _) (by rfl)) (by rfl)) (by decide) (by decide) (by rfl) (by rfl)) (by intro _; rfl))))))) (@pss_one _ _ _ (@ps_ret _ _ _ _ (@pe_bl _ _ _ _))) (@pss_nil _)) (@pss_cons _ _ _ _ _ (@ps_if _ _ _ _ _ _ _ _ (@pt_cmpR _ _ _ _ _ _ _ _ (op_eqA hr.units) (@pe_callB _ _ _ _ _ _ _ _ _ c_len rfl T.z_len bt_len (@pa_cons _ _ _ _ _ (pv 0) (@pa_nil _) (by rfl)) (by decide) (by decide) (by rfl) (by rfl)) (@pe_int _ _ _ _) (nomark _)) (@pss_one _ _ _ (@ps_ret _ _ _ _ (@pe_and _ _ _ _ _ _ _ (@pe_cmpR _ _ _ _ _ _ _ _ op_in_seq (@pe_ix _ _ _ _ _ _ _ ix_LT (pv 0) (@pe_int _ _ _ _) (fun _ _ => rfl)) (@pe_tup _ _ _ _ _ (@pa_cons _ _ _ _ _ (@pe_str _ _ _ _) (@pa_cons _ _ _ _ _ (@pe_str _ _ _ _) (@pa_nil _) (by rfl)) (by rfl))) (by with_unfolding_all rfl)) (@pe_and _ _ _ _ _ _ _ (@pe_callO _ _ _ _ _ _ _ _ _ _ o_is_pair hr rfl (@pa_cons _ _ _ _ _ (@pe_ix _ _ _ _ _ _ _ ix_LT (pv 0) (@pe_int _ _ _ _) (fun _ _ => rfl)) (@pa_cons _ _ _ _ _ (@pe_ix _ _ _ _ _ _ _ ix_LT (pv 0) (@pe_int _ _ _ _) (fun _ _ => rfl)) (@pa_nil _) (by rfl)) (by rfl)) (by decide) (by rfl) (by rfl)) (@pe_one _ _ _ _ _ (@pe_callO _ _ _ _ _ _ _ _ _ _ o_is_fraction hr rfl (@pa_cons _ _ _ _ _ (@pe_ix _ _ _ _ _ _ _ ix_LT (pv 0) (@pe_int _ _ _ _) (fun _ _ => rfl)) (@pa_nil _) (by rfl)) (by decide) (by rfl) (by rfl))))))) (@pss_nil _)) (@pss_cons _ _ _ _ _ (@ps_if _ _ _ _ _ _ _ _ (@pt_cmpR _ _ _ _ _ _ _ _ (op_eqA hr.units) (@pe_ix _ _ _ _ _ _ _ ix_LT (pv 0) (@pe_int _ _ _ _) (fun _ _ => rfl)) (@pe_str _ _ _ _) (nomark _)) (@pss_one _ _ _ (@ps_ret _ _ _ _ (@pe_and _ _ _ _ _ _ _ (@pe_callO _ _ _ _ _ _ _ _ _ _ o_is_post hr rfl (@pa_cons _ _ _ _ _ (@pe_ix _ _ _ _ _ _ _ ix_LT (pv 0) (@pe_int _ _ _ _) (fun _ _ => rfl)) (@pa_nil _) (by rfl)) (by decide) (by rfl) (by rfl)) (@pe_one _ _ _ _ _ (@pe_callO _ _ _ _ _ _ _ _ _ _ o_is_moment hr rfl (@pa_cons _ _ _ _ _ (@pe_ix _ _ _ _ _ _ _ ix_LT (pv 0) (@pe_int _ _ _ _) (fun _ _ => rfl)) (@pa_nil _) (by rfl)) (by decide) (by rfl) (by rfl)))))) (@pss_nil _)) (@pss_one _ _ _ (@ps_ret _ _ _ _ (@pe_and _ _ _ _ _ _ _ (@pe_cmpR _ _ _ _ _ _ _ _ (op_eqA hr.units) (@pe_ix _ _ _ _ _ _ _ ix_LT (pv 0) (@pe_int _ _ _ _) (fun _ _ => rfl)) (@pe_str _ _ _ _) (nomark _)) (@pe_one _ _ _ _ _ (@pe_callO _ _ _ _ _ _ _ _ _ _ o_is_pair hr rfl (@pa_cons _ _ _ _ _ (@pe_ix _ _ _ _ _ _ _ ix_LT (pv 0) (@pe_int _ _ _ _) (fun _ _ => rfl)) (@pa_cons _ _ _ _ _ (@pe_ix _ _ _ _ _ _ _ ix_LT (pv 0) (@pe_int _ _ _ _) (fun _ _ => rfl)) (@pa_nil _) (by rfl)) (by rfl)) (by decide) (by rfl) (by rfl))))))))), ?_⟩
    cases h with
    | nt h =>
      obtain ⟨t, ty, e⟩ := h
      walk_at "go"
      refine r_isTy ty e ?_
      walk_at "go"
      exact q _ (Same.refl _)
    | @len p xs h n3 n4 =>
      walk_at "go"
      refine r_isTy (.tup h) kit_tuple_tuple ?_
      walk_at "go"
      refine r_tupK fun c0 g0 => ?_
      have h' := upd_old (o := .tup [.int 3, .int 4]) g0 h
      have s0 : Same H (upd H c0 (.tup [.int 3, .int 4])) := Same.new g0
      have hc0 := upd_same (H := H) (a := c0) (o := .tup [.int 3, .int 4])
      generalize upd H c0 (.tup [.int 3, .int 4]) = H0 at h' s0 hc0 ⊢
      walk_at "go"
      refine r_nin34 hc0 (b := true) (by rw [decide_eq_false (show ¬ (xs.length : Int) = 3 by omega), decide_eq_false (show ¬ (xs.length : Int) = 4 by omega)]; rfl) ?_
      walk_at "go"
      exact q _ s0
    | @no3 p u x t h hu =>
      walk_at "go"
      refine r_isTy (.tup h) kit_tuple_tuple ?_
      walk_at "go"
      refine r_tupK fun c0 g0 => ?_
      have h' := upd_old (o := .tup [.int 3, .int 4]) g0 h
      have s0 : Same H (upd H c0 (.tup [.int 3, .int 4])) := Same.new g0
      have hc0 := upd_same (H := H) (a := c0) (o := .tup [.int 3, .int 4])
      generalize upd H c0 (.tup [.int 3, .int 4]) = H0 at h' s0 hc0 ⊢
      walk_at "go"
      refine r_nin34 (n := ((3 : Nat) : Int)) hc0 (b := false) (by decide) ?_
      walk_at "go"
      obtain ⟨ty', ty, e⟩ := hu.sm s0
      refine r_isTy ty e ?_
      walk_at "go"
      exact q _ s0
    | @four p k' x y t h h1' h2' =>
      walk_at "go"
      refine r_isTy (.tup h) kit_tuple_tuple ?_
      walk_at "go"
      refine r_tupK fun c0 g0 => ?_
      have h' := upd_old (o := .tup [.int 3, .int 4]) g0 h
      have s0 : Same H (upd H c0 (.tup [.int 3, .int 4])) := Same.new g0
      have hc0 := upd_same (H := H) (a := c0) (o := .tup [.int 3, .int 4])
      generalize upd H c0 (.tup [.int 3, .int 4]) = H0 at h' s0 hc0 ⊢
      walk_at "go"
      refine r_nin34 (n := ((4 : Nat) : Int)) hc0 (b := false) (by decide) ?_
      walk_at "go"
      refine r_isTy (.str _) kit_str_str ?_
      walk_at "go"
      refine i_d (fun _ => ?_) (fun c => absurd (show (((4 : Nat) : Int) = 4) by decide) c)
      walk_at "go"
      refine r_tupK fun c1 g1 => ?_
      have h1 := upd_old (o := .tup [.str "after", .str "within"]) g1 h'
      have s1 : Same H (upd H0 c1 (.tup [.str "after", .str "within"])) := s0.trans (Same.new g1)
      have hc1 := upd_same (H := H0) (a := c1) (o := .tup [.str "after", .str "within"])
      generalize upd H0 c1 (.tup [.str "after", .str "within"]) = H1 at h1 s1 hc1 ⊢
      walk_at "go"
      refine r_inT (ys := ["after", "within"]) hc1 ?_
      walk_at "go"
      refine i_dF (by simp [h1', h2']) ?_
      walk_at "go"
      exact q _ s1
    | @nop p k' x y t h hk hp =>
      walk_at "go"
      refine r_isTy (.tup h) kit_tuple_tuple ?_
      walk_at "go"
      refine r_tupK fun c0 g0 => ?_
      have h' := upd_old (o := .tup [.int 3, .int 4]) g0 h
      have s0 : Same H (upd H c0 (.tup [.int 3, .int 4])) := Same.new g0
      have hc0 := upd_same (H := H) (a := c0) (o := .tup [.int 3, .int 4])
      generalize upd H c0 (.tup [.int 3, .int 4]) = H0 at h' s0 hc0 ⊢
      walk_at "go"
      refine r_nin34 (n := ((4 : Nat) : Int)) hc0 (b := false) (by decide) ?_
      walk_at "go"
      refine r_isTy (.str _) kit_str_str ?_
      walk_at "go"
      refine i_d (fun _ => ?_) (fun c => absurd (show (((4 : Nat) : Int) = 4) by decide) c)
      walk_at "go"
      refine r_tupK fun c1 g1 => ?_
      have h1 := upd_old (o := .tup [.str "after", .str "within"]) g1 h'
      have s1 : Same H (upd H0 c1 (.tup [.str "after", .str "within"])) := s0.trans (Same.new g1)
      have hc1 := upd_same (H := H0) (a := c1) (o := .tup [.str "after", .str "within"])
      generalize upd H0 c1 (.tup [.str "after", .str "within"]) = H1 at h1 s1 hc1 ⊢
      walk_at "go"
      refine r_inT (ys := ["after", "within"]) hc1 ?_
      walk_at "go"
      refine i_dT (by rcases hk with rfl | rfl <;> simp) ?_
      walk_at "go"
      refine ⟨_, _, false, rfl, hp.sm s1, fun H2 s2 => ?_⟩
      walk_at "go"
      exact q _ (s1.trans s2)
    | @frac p k' x y t b h hk hp ht =>
      walk_at "go"
      refine r_isTy (.tup h) kit_tuple_tuple ?_
      walk_at "go"
      refine r_tupK fun c0 g0 => ?_
      have h' := upd_old (o := .tup [.int 3, .int 4]) g0 h
      have s0 : Same H (upd H c0 (.tup [.int 3, .int 4])) := Same.new g0
      have hc0 := upd_same (H := H) (a := c0) (o := .tup [.int 3, .int 4])
      generalize upd H c0 (.tup [.int 3, .int 4]) = H0 at h' s0 hc0 ⊢
      walk_at "go"
      refine r_nin34 (n := ((4 : Nat) : Int)) hc0 (b := false) (by decide) ?_
      walk_at "go"
      refine r_isTy (.str _) kit_str_str ?_
      walk_at "go"
      refine i_d (fun _ => ?_) (fun c => absurd (show (((4 : Nat) : Int) = 4) by decide) c)
      walk_at "go"
      refine r_tupK fun c1 g1 => ?_
      have h1 := upd_old (o := .tup [.str "after", .str "within"]) g1 h'
      have s1 : Same H (upd H0 c1 (.tup [.str "after", .str "within"])) := s0.trans (Same.new g1)
      have hc1 := upd_same (H := H0) (a := c1) (o := .tup [.str "after", .str "within"])
      generalize upd H0 c1 (.tup [.str "after", .str "within"]) = H1 at h1 s1 hc1 ⊢
      walk_at "go"
      refine r_inT (ys := ["after", "within"]) hc1 ?_
      walk_at "go"
      refine i_dT (by rcases hk with rfl | rfl <;> simp) ?_
      walk_at "go"
      refine ⟨_, _, true, rfl, hp.sm s1, fun H2 s2 => ?_⟩
      have h2 := s2 _ _ h1
      walk_at "go"
      refine ⟨_, b, rfl, ht _ (s1.trans s2), ?_⟩
      walk_at "go"
      exact q _ (s1.trans s2)
    | @frm0 p x t h hx =>
      walk_at "go"
      refine r_isTy (.tup h) kit_tuple_tuple ?_
      walk_at "go"
      refine r_tupK fun c0 g0 => ?_
      have h' := upd_old (o := .tup [.int 3, .int 4]) g0 h
      have s0 : Same H (upd H c0 (.tup [.int 3, .int 4])) := Same.new g0
      have hc0 := upd_same (H := H) (a := c0) (o := .tup [.int 3, .int 4])
      generalize upd H c0 (.tup [.int 3, .int 4]) = H0 at h' s0 hc0 ⊢
      walk_at "go"
      refine r_nin34 (n := ((3 : Nat) : Int)) hc0 (b := false) (by decide) ?_
      walk_at "go"
      refine r_isTy (.str _) kit_str_str ?_
      walk_at "go"
      refine i_d (fun c => absurd c (show ¬ (((3 : Nat) : Int) = 4) by decide)) (fun _ => ?_)
      walk_at "go"
      refine i_d (fun _ => ?_) (fun c => absurd rfl c)
      walk_at "go"
      refine ⟨_, false, rfl, hx.sm s0, fun H1 s1 => ?_⟩
      walk_at "go"
      exact q _ (s0.trans s1)
    | @frm p x t b h hx ht =>
      walk_at "go"
      refine r_isTy (.tup h) kit_tuple_tuple ?_
      walk_at "go"
      refine r_tupK fun c0 g0 => ?_
      have h' := upd_old (o := .tup [.int 3, .int 4]) g0 h
      have s0 : Same H (upd H c0 (.tup [.int 3, .int 4])) := Same.new g0
      have hc0 := upd_same (H := H) (a := c0) (o := .tup [.int 3, .int 4])
      generalize upd H c0 (.tup [.int 3, .int 4]) = H0 at h' s0 hc0 ⊢
      walk_at "go"
      refine r_nin34 (n := ((3 : Nat) : Int)) hc0 (b := false) (by decide) ?_
      walk_at "go"
      refine r_isTy (.str _) kit_str_str ?_
      walk_at "go"
      refine i_d (fun c => absurd c (show ¬ (((3 : Nat) : Int) = 4) by decide)) (fun _ => ?_)
      walk_at "go"
      refine i_d (fun _ => ?_) (fun c => absurd rfl c)
      walk_at "go"
      refine ⟨_, true, rfl, hx.sm s0, fun H1 s1 => ?_⟩
      have h1 := s1 _ _ h'
      walk_at "go"
      refine ⟨_, b, rfl, ht _ (s0.trans s1), ?_⟩
      walk_at "go"
      exact q _ (s0.trans s1)
    | @wit0 p k' x y h h1' h2' =>
      walk_at "go"
      refine r_isTy (.tup h) kit_tuple_tuple ?_
      walk_at "go"
      refine r_tupK fun c0 g0 => ?_
      have h' := upd_old (o := .tup [.int 3, .int 4]) g0 h
      have s0 : Same H (upd H c0 (.tup [.int 3, .int 4])) := Same.new g0
      have hc0 := upd_same (H := H) (a := c0) (o := .tup [.int 3, .int 4])
      generalize upd H c0 (.tup [.int 3, .int 4]) = H0 at h' s0 hc0 ⊢
      walk_at "go"
      refine r_nin34 (n := ((3 : Nat) : Int)) hc0 (b := false) (by decide) ?_
      walk_at "go"
      refine r_isTy (.str _) kit_str_str ?_
      walk_at "go"
      refine i_d (fun c => absurd c (show ¬ (((3 : Nat) : Int) = 4) by decide)) (fun _ => ?_)
      walk_at "go"
      refine i_d (fun c => absurd c h1') (fun _ => ?_)
      walk_at "go"
      refine i_d (fun c => absurd c h2') (fun _ => ?_)
      walk_at "go"
      exact q _ s0
    | @wit p x y b h hp =>
      walk_at "go"
      refine r_isTy (.tup h) kit_tuple_tuple ?_
      walk_at "go"
      refine r_tupK fun c0 g0 => ?_
      have h' := upd_old (o := .tup [.int 3, .int 4]) g0 h
      have s0 : Same H (upd H c0 (.tup [.int 3, .int 4])) := Same.new g0
      have hc0 := upd_same (H := H) (a := c0) (o := .tup [.int 3, .int 4])
      generalize upd H c0 (.tup [.int 3, .int 4]) = H0 at h' s0 hc0 ⊢
      walk_at "go"
      refine r_nin34 (n := ((3 : Nat) : Int)) hc0 (b := false) (by decide) ?_
      walk_at "go"
      refine r_isTy (.str _) kit_str_str ?_
      walk_at "go"
      refine i_d (fun c => absurd c (show ¬ (((3 : Nat) : Int) = 4) by decide)) (fun _ => ?_)
      walk_at "go"
      refine i_d (fun c => absurd c (by decide +kernel)) (fun _ => ?_)
      walk_at "go"
      refine i_d (fun _ => ?_) (fun c => absurd rfl c)
      walk_at "go"
      refine ⟨_, _, b, rfl, hp.sm s0, fun H1 s1 => ?_⟩
      walk_at "go"
      exact q _ (s0.trans s1)
theorem ok_refuse_no_wishes (T : Bl mg) (d : Df K mg "refuse_no_wishes" s_refuse_no_wishes ["wishes"]  ) (o_is_wish : Okf P w K mg base k "is_wish" ["thing"] (spIsWish K)) : Okf P w K mg base (k + 1) "refuse_no_wishes" ["wishes"] spRefuse := by
  refine Okf.of d sc_refuse_no_wishes (fun vs H Q E h => ?_) (fun f cdv A outer s H vs Q E hr h => ?_)
  · obtain ⟨l, ws, rfl, _⟩ := h
    rfl
  · obtain ⟨l, ws, rfl, ⟨vs', hl, pvs⟩, hok, hlen, q⟩ := h
    refine ⟨_, (@pss_cons _ _ _ _ _ (@ps_if _ _ _ _ _ _ _ _ (@pt_not _ _ _ _ (@pt_val _ _ _ (@pe_callB _ _ _ _ _ _ _ _ _ (call_isTy (T := "list")) rfl T.z_isinstance bt_isinstance (@pa_cons _ _ _ _ _ (pv 0) (@pa_cons _ _ _ _ _ (@pe_bltn _ _ (v := .ty "list") _ _ rfl T.z_list bt_list rfl (by decide) (by decide)) (@pa_nil _) (by rfl)) (by rfl)) (by decide) (by decide) (by rfl) (by rfl)) (by intro _; rfl))) (@pss_one _ _ _ (@ps_never _ _)) (@pss_nil _)) (@pss_one _ _ _ (@ps_for _ _ _ _ _ _ _ _ PassesOwn.never rfl (@pi_enum _ _ _ _ _ _ _ _ rfl T.z_enumerate (@pa_cons _ _ _ _ _ (pv 0) (@pa_nil _) (by rfl)) (by rfl)) (@pg_tup _ _ _ _ _ (n := 2) rfl (@pgs_cons _ _ _ _ _ (@pg_name _ _ (i := 1) _ sc_refuse_no_wishes.nd rfl (by first | exact Or.inl rfl | exact Or.inr rfl) (by first | exact .inl rfl | exact .inr rfl | assumption)) (@pgs_cons _ _ _ _ _ (@pg_name _ _ (i := 2) _ sc_refuse_no_wishes.nd rfl (by first | exact Or.inl rfl | exact Or.inr rfl) (by first | exact .inl rfl | exact .inr rfl | assumption)) (@pgs_nil _) (by rfl)) (by rfl)) (by rfl) (by rfl)) (@pss_one _ _ _ (@ps_if _ _ _ _ _ _ _ _ (@pt_not _ _ _ _ (@pt_val _ _ _ (@pe_callO _ _ _ _ _ _ _ _ _ _ o_is_wish hr rfl (@pa_cons _ _ _ _ _ (pv 2) (@pa_nil _) (by rfl)) (by decide) (by rfl) (by rfl)) (by intro _; rfl))) (@pss_one _ _ _ (@ps_never _ _)) (@pss_nil _))) (by intro _; rfl)))), ?_⟩
    walk_at "go"
    refine r_isTy (.lst hl) kit_list_list ?_
    walk_at "go"
    refine e_K hl ?_
    refine r_forE (xs := vs') (fun i σ G => ∃ o1 o2, σ = [some (.ref l), o1, o2] ∧ Same H G) ⟨_, _, rfl, Same.refl _⟩ ?_ ?_ ?_
    · rintro i σ G _ ⟨o1, o2, rfl, sG⟩
      exact SqL.of (sG _ _ hl)
    · rintro i x T0 σ G hx hT ⟨o1, o2, rfl, sG⟩
      obtain ⟨w', hw, qw⟩ := Paired.at pvs hx
      have s1 := sG.trans (Same.new (o := .tup [.int i, x]) hT)
      have hT2 := upd_same (H := G) (a := T0) (o := .tup [.int i, x])
      generalize upd G T0 (.tup [.int i, x]) = G1 at s1 hT2 ⊢
      walk_at "go"
      refine ⟨_, true, rfl, (qw.tk s1.tk).is (hok w' (List.mem_of_getElem? hw)), fun G2 s2 => ?_⟩
      walk_at "go"
      exact ⟨_, _, rfl, s1.trans s2⟩
    · rintro σ G ⟨o1, o2, rfl, sG⟩
      walk_at "go"
      exact q _ sG
theorem ok_steps_by (T : Bl mg) (d : Df K mg "steps_by" s_steps_by ["number", "wish"]  ) : Okf P w K mg base (k + 1) "steps_by" ["number", "wish"] spStepsBy := by
  refine Okf.of d sc_steps_by (fun vs H Q E h => ?_) (fun f cdv A outer s H vs Q E hr h => ?_)
  · obtain ⟨k', v, w', rfl, _⟩ := h
    rfl
  · obtain ⟨k', v, w', rfl, h, q⟩ := h
    refine ⟨_, (@pss_cons _ _ _ _ _ (@ps_if _ _ _ _ _ _ _ _ (@pt_cmpR _ _ _ _ _ _ _ _ (op_eqA hr.units) (@pe_ix _ _ _ _ _ _ _ ix_LT (pv 1) (@pe_int _ _ _ _) (fun _ _ => rfl)) (@pe_str _ _ _ _) (nomark _)) (@pss_one _ _ _ (@ps_ret _ _ _ _ (@pe_lst _ _ _ _ (@pa_cons _ _ _ _ _ (@pe_tup _ _ _ _ _ (@pa_cons _ _ _ _ _ (@pe_ix _ _ _ _ _ _ _ ix_LT (pv 1) (@pe_int _ _ _ _) (fun _ _ => rfl)) (@pa_cons _ _ _ _ _ (@pe_ix _ _ _ _ _ _ _ ix_LT (pv 1) (@pe_int _ _ _ _) (fun _ _ => rfl)) (@pa_cons _ _ _ _ _ (@pe_ix _ _ _ _ _ _ _ ix_LT (pv 1) (@pe_int _ _ _ _) (fun _ _ => rfl)) (@pa_cons _ _ _ _ _ (pv 0) (@pa_nil _) (by rfl)) (by rfl)) (by rfl)) (by rfl))) (@pa_nil _) (by rfl))))) (@pss_nil _)) (@pss_cons _ _ _ _ _ (@ps_if _ _ _ _ _ _ _ _ (@pt_cmpR _ _ _ _ _ _ _ _ (op_eqA hr.units) (@pe_ix _ _ _ _ _ _ _ ix_LT (pv 1) (@pe_int _ _ _ _) (fun _ _ => rfl)) (@pe_str _ _ _ _) (nomark _)) (@pss_one _ _ _ (@ps_ret _ _ _ _ (@pe_lst _ _ _ _ (@pa_cons _ _ _ _ _ (@pe_tup _ _ _ _ _ (@pa_cons _ _ _ _ _ (@pe_ix _ _ _ _ _ _ _ ix_LT (pv 1) (@pe_int _ _ _ _) (fun _ _ => rfl)) (@pa_cons _ _ _ _ _ (@pe_ix _ _ _ _ _ _ _ ix_LT (pv 1) (@pe_int _ _ _ _) (fun _ _ => rfl)) (@pa_cons _ _ _ _ _ (@pe_tup _ _ _ _ _ (@pa_cons _ _ _ _ _ (@pe_un _ _ _ _ _ _ un_neg (@pe_ix _ _ _ _ _ _ _ ix_LT (@pe_ix _ _ _ _ _ _ _ ix_LT (pv 1) (@pe_int _ _ _ _) (fun _ _ => rfl)) (@pe_int _ _ _ _) (fun _ _ => rfl))) (@pa_cons _ _ _ _ _ (@pe_ix _ _ _ _ _ _ _ ix_LT (@pe_ix _ _ _ _ _ _ _ ix_LT (pv 1) (@pe_int _ _ _ _) (fun _ _ => rfl)) (@pe_int _ _ _ _) (fun _ _ => rfl)) (@pa_nil _) (by rfl)) (by rfl))) (@pa_cons _ _ _ _ _ (pv 0) (@pa_nil _) (by rfl)) (by rfl)) (by rfl)) (by rfl))) (@pa_nil _) (by rfl))))) (@pss_nil _)) (@pss_cons _ _ _ _ _ (@ps_if _ _ _ _ _ _ _ _ (@pt_cmpR _ _ _ _ _ _ _ _ (op_eqA hr.units) (@pe_ix _ _ _ _ _ _ _ ix_LT (pv 1) (@pe_int _ _ _ _) (fun _ _ => rfl)) (@pe_str _ _ _ _) (nomark _)) (@pss_one _ _ _ (@ps_ret _ _ _ _ (@pe_lst _ _ _ _ (@pa_cons _ _ _ _ _ (@pe_tup _ _ _ _ _ (@pa_cons _ _ _ _ _ (@pe_ix _ _ _ _ _ _ _ ix_LT (pv 1) (@pe_int _ _ _ _) (fun _ _ => rfl)) (@pa_cons _ _ _ _ _ (@pe_ix _ _ _ _ _ _ _ ix_LT (pv 1) (@pe_int _ _ _ _) (fun _ _ => rfl)) (@pa_cons _ _ _ _ _ (@pe_tup _ _ _ _ _ (@pa_cons _ _ _ _ _ (@pe_int _ _ _ _) (@pa_cons _ _ _ _ _ (@pe_int _ _ _ _) (@pa_nil _) (by rfl)) (by rfl))) (@pa_cons _ _ _ _ _ (pv 0) (@pa_nil _) (by rfl)) (by rfl)) (by rfl)) (by rfl))) (@pa_cons _ _ _ _ _ (@pe_tup _ _ _ _ _ (@pa_cons _ _ _ _ _ (@pe_ix _ _ _ _ _ _ _ ix_LT (pv 1) (@pe_int _ _ _ _) (fun _ _ => rfl)) (@pa_cons _ _ _ _ _ (@pe_ix _ _ _ _ _ _ _ ix_LT (pv 1) (@pe_int _ _ _ _) (fun _ _ => rfl)) (@pa_cons _ _ _ _ _ (@pe_tup _ _ _ _ _ (@pa_cons _ _ _ _ _ (@pe_int _ _ _ _) (@pa_cons _ _ _ _ _ (@pe_int _ _ _ _) (@pa_nil _) (by rfl)) (by rfl))) (@pa_cons _ _ _ _ _ (pv 0) (@pa_nil _) (by rfl)) (by rfl)) (by rfl)) (by rfl))) (@pa_nil _) (by rfl)) (by rfl))))) (@pss_nil _)) (@pss_one _ _ _ (@ps_ret _ _ _ _ (@pe_lst _ _ _ _ (@pa_nil _))))))), ?_⟩
    have fresh : ∀ {H1 : Hp} {l : Addr}, Same H H1 → H1 l = none → H l = none := fun s h => s.free h
    cases w' with
    | after z u r =>
      obtain ⟨p, t, rfl, h, f⟩ := h
      walk_at "go"
      refine i_d (fun _ => ?_) (fun c => absurd rfl c)
      walk_at "go"
      refine r_tupK fun a1 g1 => ?_
      walk_at "go"
      refine r_lstK fun l g2 => ?_
      walk_at "go"
      have s1 := (Same.new (o := .tup [.str z, .str u, t, .int k']) g1).trans (Same.new (o := .lst [.ref a1]) g2)
      exact q l _ (fresh (Same.new g1) g2) s1 ⟨_, upd_same, .cons ⟨a1, t, rfl, upd_old g2 upd_same, f.tk s1.tk⟩ .nil⟩
    | within z u r =>
      obtain ⟨p, t, rfl, h, pt, rfl, hpt⟩ := h
      walk_at "go"
      refine i_d (fun c => absurd c (by decide +kernel)) (fun _ => ?_)
      walk_at "go"
      refine i_d (fun _ => ?_) (fun c => absurd rfl c)
      walk_at "go"
      refine r_tupK fun a0 g0 => ?_
      walk_at "go"
      refine r_tupK fun a1 g1 => ?_
      walk_at "go"
      refine r_lstK fun l g2 => ?_
      walk_at "go"
      have s0 := Same.new (o := .tup [.int (-r.num), .int r.den]) g0
      have s1 := s0.trans (Same.new (o := .tup [.str u, .str z, .ref a0, .int k']) g1)
      exact q l _ (fresh s1 g2) (s1.trans (Same.new g2)) ⟨_, upd_same, .cons ⟨a1, _, rfl, upd_old g2 upd_same, fr_neg (upd_old g2 (upd_old g1 upd_same))⟩ .nil⟩
    | wit z u =>
      obtain ⟨p, rfl, h⟩ := h
      walk_at "go"
      refine i_d (fun c => absurd c (by decide +kernel)) (fun _ => ?_)
      walk_at "go"
      refine i_d (fun c => absurd c (by decide +kernel)) (fun _ => ?_)
      walk_at "go"
      refine i_d (fun _ => ?_) (fun c => absurd rfl c)
      walk_at "go"
      refine r_tupK fun a0 g0 => ?_
      walk_at "go"
      refine r_tupK fun a1 g1 => ?_
      walk_at "go"
      refine r_tupK fun a2 g2 => ?_
      walk_at "go"
      refine r_tupK fun a3 g3 => ?_
      walk_at "go"
      refine r_lstK fun l g4 => ?_
      walk_at "go"
      have s0 := Same.new (o := .tup [.int 0, .int 1]) g0
      have s1 := s0.trans (Same.new (o := .tup [.str z, .str u, .ref a0, .int k']) g1)
      have s2 := s1.trans (Same.new (o := .tup [.int 0, .int 1]) g2)
      have s3 := s2.trans (Same.new (o := .tup [.str u, .str z, .ref a2, .int k']) g3)
      exact q l _ (fresh s3 g4) (s3.trans (Same.new g4)) ⟨_, upd_same, .cons ⟨a1, _, rfl, upd_old g4 (upd_old g3 (upd_old g2 upd_same)), fr_zero (upd_old g4 (upd_old g3 (upd_old g2 (upd_old g1 upd_same))))⟩ (.cons ⟨a3, _, rfl, upd_old g4 upd_same, fr_zero (upd_old g4 (upd_old g3 upd_same))⟩ .nil)⟩
    | frm z r =>
      obtain ⟨p, t, rfl, h, f⟩ := h
      walk_at "go"
      refine i_d (fun c => absurd c (by decide +kernel)) (fun _ => ?_)
      walk_at "go"
      refine i_d (fun c => absurd c (by decide +kernel)) (fun _ => ?_)
      walk_at "go"
      refine i_d (fun c => absurd c (by decide +kernel)) (fun _ => ?_)
      walk_at "go"
      refine r_lstK fun l g4 => ?_
      walk_at "go"
      exact q l _ g4 (Same.new g4) ⟨_, upd_same, .nil⟩
theorem ok_steps_of (T : Bl mg) (d : Df K mg "steps_of" s_steps_of ["wishes"]  ) (o_steps_by : Okf P w K mg base k "steps_by" ["number", "wish"] spStepsBy) (o_refuse_no_wishes : Okf P w K mg base k "refuse_no_wishes" ["wishes"] spRefuse) : Okf P w K mg base (k + 1) "steps_of" ["wishes"] spStepsOf := by
  refine Okf.of d sc_steps_of (fun vs H Q E h => ?_) (fun f cdv A outer s H vs Q E hr h => ?_)
  · obtain ⟨l, ws, rfl, _⟩ := h
    rfl
  · obtain ⟨l, ws, rfl, hws, hok, hlen, q⟩ := h
    refine ⟨_, (@pss_cons _ _ _ _ _ (@ps_expr _ _ _ _ (@pe_callO _ _ _ _ _ _ _ _ _ _ o_refuse_no_wishes hr rfl (@pa_cons _ _ _ _ _ (pv 0) (@pa_nil _) (by rfl)) (by decide) (by rfl) (by rfl)) (by rfl)) (@pss_cons _ _ _ _ _ (@ps_set _ _ (i := 1) _ _ _ _ sc_steps_of.nd rfl (by first | exact Or.inl rfl | exact Or.inr rfl) (@pe_lst _ _ _ _ (@pa_nil _)) (by rfl) (by first | exact .inl rfl | exact .inr rfl | assumption)) (@pss_cons _ _ _ _ _ (@ps_for _ _ _ _ _ _ _ _ PassesOwn.never rfl (@pi_enum _ _ _ _ _ _ _ _ rfl T.z_enumerate (@pa_cons _ _ _ _ _ (pv 0) (@pa_nil _) (by rfl)) (by rfl)) (@pg_tup _ _ _ _ _ (n := 2) rfl (@pgs_cons _ _ _ _ _ (@pg_name _ _ (i := 2) _ sc_steps_of.nd rfl (by first | exact Or.inl rfl | exact Or.inr rfl) (by first | exact .inl rfl | exact .inr rfl | assumption)) (@pgs_cons _ _ _ _ _ (@pg_name _ _ (i := 3) _ sc_steps_of.nd rfl (by first | exact Or.inl rfl | exact Or.inr rfl) (by first | exact .inl rfl | exact .inr rfl | assumption)) (@pgs_nil _) (by rfl)) (by rfl)) (by rfl) (by rfl)) (@pss_one _ _ _ (@ps_expr _ _ _ _ (@pe_bm _ _ _ _ _ _ _ _ _ _ _ _ PySem.F.plainAttrs_list PySem.F.slot_list_extend PySem.F.type_list_extend mt_extend (pv 1) (@pa_cons _ _ _ _ _ (@pe_callO _ _ _ _ _ _ _ _ _ _ o_steps_by hr rfl (@pa_cons _ _ _ _ _ (pv 2) (@pa_cons _ _ _ _ _ (pv 3) (@pa_nil _) (by rfl)) (by rfl)) (by decide) (by rfl) (by rfl)) (@pa_nil _) (by rfl)) (by rfl) (by rfl) (by rfl) (by rfl) (by rfl)) (by rfl))) (by intro _; rfl)) (@pss_one _ _ _ (@ps_ret _ _ _ _ (pv 1)))))), ?_⟩
    walk_at "go"
    refine ⟨l, ws, rfl, hws, hok, hlen, fun H1 s1 => ?_⟩
    walk_at "go"
    refine r_lstK fun ls gs => ?_
    walk_at "go"
    obtain ⟨vs', hl, pvs⟩ := hws
    have hvl : vs'.length = ws.length := Paired.length pvs
    have s2 := s1.trans (Same.new (o := .lst []) gs)
    refine e_K (s2 _ _ hl) ?_
    refine r_forE (xs := vs') (fun i σ G => ∃ o1 o2, σ = [some (.ref l), some (.ref ls), o1, o2] ∧ Kp ls H1 G ∧ LQ StepQ G ls (stepsOf (ws.take i))) ⟨_, _, rfl, Kp.new gs, ⟨_, upd_same, .nil⟩⟩ ?_ ?_ ?_
    · rintro i σ G _ ⟨o1, o2, rfl, kG, _⟩
      exact SqL.of (kG _ _ (ne_of_none (s1 _ _ hl) gs) (s1 _ _ hl))
    · rintro i x T0 σ G hx hT ⟨o1, o2, rfl, kG, zs, hz, pz⟩
      obtain ⟨w', hw, qw⟩ := Paired.at pvs hx
      have sG : Same H G := kG.sm s1 (s1.free gs)
      have sT := Same.new (H := G) (o := .tup [.int i, x]) hT
      have hT2 := upd_same (H := G) (a := T0) (o := .tup [.int i, x])
      have nT : T0 ≠ ls := Ne.symm (ne_of_none hz hT)
      generalize upd G T0 (.tup [.int i, x]) = G1 at sT hT2 ⊢
      have hz1 := sT _ _ hz
      walk_at "go"
      refine ⟨i, x, w', rfl, qw.tk (sG.trans sT).tk, fun lb G2 hb sb ⟨zb, hzb, pzb⟩ => ?_⟩
      have hz2 := sb _ _ (sT _ _ hz)
      have l1 : zs.length ≤ 600 := by
        rw [Paired.length pz]
        have h1 := steps_len (ws.take i)
        have h2 : (ws.take i).length ≤ ws.length := by rw [List.length_take]; omega
        omega
      have l2 : zb.length ≤ 2 := by
        rw [Paired.length pzb]
        exact stepsBy_len i w'
      walk_at "go"
      refine r_ext hz2 hzb (by omega) ?_
      walk_at "go"
      have tk3 : TK G (upd G2 ls (.lst (zs ++ zb))) := (sT.trans sb).tk.trans (TK.lst hz2)
      have tk4 : TK G2 (upd G2 ls (.lst (zs ++ zb))) := TK.lst hz2
      refine ⟨_, _, rfl, (kG.trans (sT.trans sb).kp).trans Kp.upd, ⟨_, upd_same, ?_⟩⟩
      rw [steps_take hw]
      exact pd_app (Pd.imp pz fun v b h => h.tk tk3) (Pd.imp pzb fun v b h => h.tk tk4)
    · rintro σ G ⟨o1, o2, rfl, kG, hq⟩
      rw [hvl, List.take_length] at hq
      walk_at "go"
      exact q ls G (s1.free gs) (kG.sm s1 (s1.free gs)) hq
set_option maxHeartbeats 0 in
theorem ok_first_moments (T : Bl mg) (d : Df K mg "first_moments" s_first_moments ["wishes"]  ) (o_is_less : Okf P w K mg base k "is_less" ["one", "other"] spLessQ) : Okf P w K mg base (k + 1) "first_moments" ["wishes"] spFirst := by
  refine Okf.of d sc_first_moments (fun vs H Q E h => ?_) (fun f cdv A outer s H vs Q E hr h => ?_)
  · obtain ⟨l, ws, rfl, _⟩ := h
    rfl
  · obtain ⟨l, ws, rfl, ⟨vs', hl, pvs⟩, hok, hlen, q⟩ := h
    refine ⟨_, (@pss_cons _ _ _ _ _ (@ps_set _ _ (i := 1) _ _ _ _ sc_first_moments.nd rfl (by first | exact Or.inl rfl | exact Or.inr rfl) (@pe_dnewK _ _) (by rfl) (by first | exact .inl rfl | exact .inr rfl | assumption)) (@pss_cons _ _ _ _ _ (@ps_for _ _ _ _ _ _ _ _ PassesOwn.never rfl (@pi_list _ _ _ _ (pv 0)) (@pg_name _ _ (i := 2) _ sc_first_moments.nd rfl (by first | exact Or.inl rfl | exact Or.inr rfl) (by first | exact .inl rfl | exact .inr rfl | assumption)) (@pss_cons _ _ _ _ _ (@ps_set _ _ (i := 3) _ _ _ _ sc_first_moments.nd rfl (by first | exact Or.inl rfl | exact Or.inr rfl) (@pe_ifExp _ _ _ _ _ _ _ _ (@pt_cmpR _ _ _ _ _ _ _ _ (op_eqA hr.units) (@pe_ix _ _ _ _ _ _ _ ix_LT (pv 2) (@pe_int _ _ _ _) (fun _ _ => rfl)) (@pe_str _ _ _ _) (nomark _)) (@pe_lst _ _ _ _ (@pa_cons _ _ _ _ _ (@pe_ix _ _ _ _ _ _ _ ix_LT (pv 2) (@pe_int _ _ _ _) (fun _ _ => rfl)) (@pa_nil _) (by rfl))) (@pe_lst _ _ _ _ (@pa_cons _ _ _ _ _ (@pe_ix _ _ _ _ _ _ _ ix_LT (pv 2) (@pe_int _ _ _ _) (fun _ _ => rfl)) (@pa_cons _ _ _ _ _ (@pe_ix _ _ _ _ _ _ _ ix_LT (pv 2) (@pe_int _ _ _ _) (fun _ _ => rfl)) (@pa_nil _) (by rfl)) (by rfl)))) (by rfl) (by first | exact .inl rfl | exact .inr rfl | assumption)) (@pss_cons _ _ _ _ _ (@ps_for _ _ _ _ _ _ _ _ PassesOwn.never rfl (@pi_list _ _ _ _ (pv 3)) (@pg_name _ _ (i := 4) _ sc_first_moments.nd rfl (by first | exact Or.inl rfl | exact Or.inr rfl) (by first | exact .inl rfl | exact .inr rfl | assumption)) (@pss_one _ _ _ (@ps_expr _ _ _ _ (@pe_bm _ _ _ _ _ _ _ _ _ _ _ _ PySem.F.plainAttrs_dict PySem.F.slot_dict_setdefault PySem.F.type_dict_setdefault mt_setdef (pv 1) (@pa_cons _ _ _ _ _ (pv 4) (@pa_cons _ _ _ _ _ (@pe_tup _ _ _ _ _ (@pa_cons _ _ _ _ _ (@pe_int _ _ _ _) (@pa_cons _ _ _ _ _ (@pe_int _ _ _ _) (@pa_nil _) (by rfl)) (by rfl))) (@pa_nil _) (by rfl)) (by rfl)) (by rfl) (by rfl) (by rfl) (by rfl) (by rfl)) (by rfl))) (by intro _; rfl)) (@pss_one _ _ _ (@ps_if _ _ _ _ _ _ _ _ (@PW.pt _ _ _ (@pw_and _ _ _ _ _ _ _ (@pt_cmpR _ _ _ _ _ _ _ _ (op_eqA hr.units) (@pe_ix _ _ _ _ _ _ _ ix_LT (pv 2) (@pe_int _ _ _ _) (fun _ _ => rfl)) (@pe_str _ _ _ _) (nomark _)) (@pw_and1 _ _ _ _ (@pt_val _ _ _ (@pe_callO _ _ _ _ _ _ _ _ _ _ o_is_less hr rfl (@pa_cons _ _ _ _ _ (@pe_dget _ _ _ _ _ _ hr.u1 (pv 1) (@pe_ix _ _ _ _ _ _ _ ix_LT (pv 2) (@pe_int _ _ _ _) (fun _ _ => rfl)) (fun _ _ => rfl)) (@pa_cons _ _ _ _ _ (@pe_ix _ _ _ _ _ _ _ ix_LT (pv 2) (@pe_int _ _ _ _) (fun _ _ => rfl)) (@pa_nil _) (by rfl)) (by rfl)) (by decide) (by rfl) (by rfl)) (by intro _; rfl))))) (@pss_one _ _ _ (@ps_dput _ _ _ _ _ _ _ _ _ hr.u1 (pv 1) (@pe_ix _ _ _ _ _ _ _ ix_LT (pv 2) (@pe_int _ _ _ _) (fun _ _ => rfl)) (@pe_ix _ _ _ _ _ _ _ ix_LT (pv 2) (@pe_int _ _ _ _) (fun _ _ => rfl)) rfl)) (@pss_nil _))))) (by intro _; rfl)) (@pss_one _ _ _ (@ps_ret _ _ _ _ (pv 1))))), ?_⟩
    walk_at "go"
    refine r_dnew fun d hd => ?_
    walk_at "go"
    have hvl : vs'.length = ws.length := Paired.length pvs
    refine r_listK (SqL.of (upd_old hd hl)) ?_
    refine r_forL (xs := vs') (fun i σ G => ∃ o2 o3 o4, σ = [some (.ref l), some (.ref d), o2, o3, o4] ∧ Same H G ∧ DQ FrQ G d (bfold (ws.take i))) ⟨_, _, _, rfl, Same.new hd, [], upd_same, .nil⟩ ?_ ?_ ?_
    · rintro i σ G _ ⟨o2, o3, o4, rfl, sG, _⟩
      exact SqL.of (sG _ _ hl)
    · rintro i x σ G hx ⟨o2, o3, o4, rfl, sG, kvs, hk, kq⟩
      obtain ⟨w', hw, qw⟩ := Paired.at pvs hx
      cases w' with
      | after z u r =>
        obtain ⟨p, t, rfl, hp, f⟩ := qw
        have hpG := sG _ _ hp
        walk_at "go"
        refine i_d (fun c => absurd c (by decide +kernel)) (fun _ => ?_)
        walk_at "go"
        refine r_lstK fun lb glb => ?_
        walk_at "go"
        have hlbd : lb ≠ d := Ne.symm (ne_of_none hk glb)
        have sb := Same.new (H := G) (o := .lst ([z, u].map V.str)) glb
        have hlb : upd G lb (.lst ([z, u].map V.str)) lb = some (.lst ([z, u].map V.str)) := upd_same
        have dqb : DQ FrQ (upd G lb (.lst ([z, u].map V.str))) d (bfold (ws.take i)) := ⟨kvs, sb _ _ hk, kq.imp fun v b f => f.tk sb.tk⟩
        have sHb := sG.trans sb
        refine (fun (main : ∀ Gb : Hp, Same H Gb → Gb lb = some (.lst ([z, u].map V.str)) → DQ FrQ Gb d (bfold (ws.take i)) → listK _ _ (.ref lb) Gb) => main _ sHb hlb dqb) ?_
        clear dqb hlb sHb sb
        intro Gb sHb hlb dqb
        refine r_listK (SqL.of hlb) ?_
        refine r_forL (xs := [z, u].map V.str) (fun j σ F => ∃ o4, σ = [some (.ref l), some (.ref d), some (.ref p), some (.ref lb), o4] ∧ Same H F ∧ Kp d Gb F ∧ DQ FrQ F d (([z, u].take j).foldl (fun m s => asd m (Sum.inr s) 0) (bfold (ws.take i)))) ⟨_, rfl, sHb, Kp.refl _ _, dqb⟩ ?_ ?_ ?_
        · rintro j σ F _ ⟨o4, rfl, _, kF, _⟩
          exact SqL.of (kF _ _ hlbd hlb)
        · rintro j xv σ F hx ⟨o4, rfl, sF, kF, kv2, hk2, kq2⟩
          rw [List.getElem?_map] at hx
          cases hy : ([z, u] : List Str)[j]? with
          | none => rw [hy] at hx; cases hx
          | some y =>
            rw [hy] at hx
            cases (Option.some.inj hx : V.str y = xv)
            have hj : j < ([z, u] : List Str).length := (List.getElem?_eq_some_iff.mp hy).1
            have et : ([z, u] : List Str).take (j + 1) = ([z, u] : List Str).take j ++ [y] := by rw [List.take_succ_eq_append_getElem hj, (List.getElem?_eq_some_iff.mp hy).2]
            have hkl : kv2.length ≤ 1000 := by
              refine Nat.le_trans (Nat.le_of_eq kq2.len) (Nat.le_trans (foldl_asd_len (([z, u] : List Str).take j) (bfold (ws.take i))) ?_)
              have h2 := bfold_len (ws.take i)
              rw [List.length_take] at h2
              rw [List.length_take]
              have h3 : ([z, u] : List Str).length ≤ 2 := by simp
              omega
            walk_at "go"
            refine r_tupK fun z0 gz => ?_
            have sz := Same.new (H := F) (o := .tup [.int 0, .int 1]) gz
            have hk3 := sz _ _ hk2
            have kq3 := kq2.imp (R' := FrQ) (H' := upd F z0 (.tup [.int 0, .int 1])) fun v b f => f.tk sz.tk
            have fz : FrQ (upd F z0 (.tup [.int 0, .int 1])) (.ref z0) 0 := fr_zero upd_same
            walk_at "go"
            refine r_setdef (c := Sum.inr y) hk3 hkl (fun u eu => ?_) (fun eu => ?_)
            · walk_at "go"
              refine ⟨_, rfl, sF.trans sz, kF.trans sz.kp, kv2, hk3, ?_⟩
              rw [et, List.foldl_append]
              rcases kq3.val (k := Sum.inr y) with ⟨e1, _⟩ | ⟨v1, r1, e1, e2, f1⟩
              · rw [e1] at eu; cases eu
              · rw [List.foldl_cons, List.foldl_nil, asd_some e2]
                exact kq3
            · walk_at "go"
              have tk : TK (upd F z0 (.tup [.int 0, .int 1])) (upd (upd F z0 (.tup [.int 0, .int 1])) d (.dK (kv2 ++ [(Sum.inr y, .ref z0)]))) := TK.dic hk3
              refine ⟨_, rfl, Kp.upd.sm (sF.trans sz) hd, (kF.trans sz.kp).trans Kp.upd, _, upd_same, ?_⟩
              rw [et, List.foldl_append]
              rcases kq3.val (k := Sum.inr y) with ⟨_, e2⟩ | ⟨v1, r1, e1, e2, f1⟩
              · rw [List.foldl_cons, List.foldl_nil, asd_none e2]
                exact Pd.snoc (kq3.imp fun v b f => f.tk tk) ⟨rfl, fz.tk tk⟩
              · rw [e1] at eu; cases eu
        · rintro σ F ⟨o4, rfl, sF, kF, kv2, hk2, kq2⟩
          have hp2 := sF _ _ hp
          walk_at "go"
          refine i_d (fun c => absurd c (by decide +kernel)) (fun _ => ?_)
          walk_at "go"
          refine ⟨_, _, _, rfl, sF, ?_⟩
          rw [bfold_take hw]
          exact ⟨kv2, hk2, kq2⟩
      | within z u r =>
        obtain ⟨p, t, rfl, hp, f⟩ := qw
        have hpG := sG _ _ hp
        walk_at "go"
        refine i_d (fun c => absurd c (by decide +kernel)) (fun _ => ?_)
        walk_at "go"
        refine r_lstK fun lb glb => ?_
        walk_at "go"
        have hlbd : lb ≠ d := Ne.symm (ne_of_none hk glb)
        have sb := Same.new (H := G) (o := .lst ([z, u].map V.str)) glb
        have hlb : upd G lb (.lst ([z, u].map V.str)) lb = some (.lst ([z, u].map V.str)) := upd_same
        have dqb : DQ FrQ (upd G lb (.lst ([z, u].map V.str))) d (bfold (ws.take i)) := ⟨kvs, sb _ _ hk, kq.imp fun v b f => f.tk sb.tk⟩
        have sHb := sG.trans sb
        refine (fun (main : ∀ Gb : Hp, Same H Gb → Gb lb = some (.lst ([z, u].map V.str)) → DQ FrQ Gb d (bfold (ws.take i)) → listK _ _ (.ref lb) Gb) => main _ sHb hlb dqb) ?_
        clear dqb hlb sHb sb
        intro Gb sHb hlb dqb
        refine r_listK (SqL.of hlb) ?_
        refine r_forL (xs := [z, u].map V.str) (fun j σ F => ∃ o4, σ = [some (.ref l), some (.ref d), some (.ref p), some (.ref lb), o4] ∧ Same H F ∧ Kp d Gb F ∧ DQ FrQ F d (([z, u].take j).foldl (fun m s => asd m (Sum.inr s) 0) (bfold (ws.take i)))) ⟨_, rfl, sHb, Kp.refl _ _, dqb⟩ ?_ ?_ ?_
        · rintro j σ F _ ⟨o4, rfl, _, kF, _⟩
          exact SqL.of (kF _ _ hlbd hlb)
        · rintro j xv σ F hx ⟨o4, rfl, sF, kF, kv2, hk2, kq2⟩
          rw [List.getElem?_map] at hx
          cases hy : ([z, u] : List Str)[j]? with
          | none => rw [hy] at hx; cases hx
          | some y =>
            rw [hy] at hx
            cases (Option.some.inj hx : V.str y = xv)
            have hj : j < ([z, u] : List Str).length := (List.getElem?_eq_some_iff.mp hy).1
            have et : ([z, u] : List Str).take (j + 1) = ([z, u] : List Str).take j ++ [y] := by rw [List.take_succ_eq_append_getElem hj, (List.getElem?_eq_some_iff.mp hy).2]
            have hkl : kv2.length ≤ 1000 := by
              refine Nat.le_trans (Nat.le_of_eq kq2.len) (Nat.le_trans (foldl_asd_len (([z, u] : List Str).take j) (bfold (ws.take i))) ?_)
              have h2 := bfold_len (ws.take i)
              rw [List.length_take] at h2
              rw [List.length_take]
              have h3 : ([z, u] : List Str).length ≤ 2 := by simp
              omega
            walk_at "go"
            refine r_tupK fun z0 gz => ?_
            have sz := Same.new (H := F) (o := .tup [.int 0, .int 1]) gz
            have hk3 := sz _ _ hk2
            have kq3 := kq2.imp (R' := FrQ) (H' := upd F z0 (.tup [.int 0, .int 1])) fun v b f => f.tk sz.tk
            have fz : FrQ (upd F z0 (.tup [.int 0, .int 1])) (.ref z0) 0 := fr_zero upd_same
            walk_at "go"
            refine r_setdef (c := Sum.inr y) hk3 hkl (fun u eu => ?_) (fun eu => ?_)
            · walk_at "go"
              refine ⟨_, rfl, sF.trans sz, kF.trans sz.kp, kv2, hk3, ?_⟩
              rw [et, List.foldl_append]
              rcases kq3.val (k := Sum.inr y) with ⟨e1, _⟩ | ⟨v1, r1, e1, e2, f1⟩
              · rw [e1] at eu; cases eu
              · rw [List.foldl_cons, List.foldl_nil, asd_some e2]
                exact kq3
            · walk_at "go"
              have tk : TK (upd F z0 (.tup [.int 0, .int 1])) (upd (upd F z0 (.tup [.int 0, .int 1])) d (.dK (kv2 ++ [(Sum.inr y, .ref z0)]))) := TK.dic hk3
              refine ⟨_, rfl, Kp.upd.sm (sF.trans sz) hd, (kF.trans sz.kp).trans Kp.upd, _, upd_same, ?_⟩
              rw [et, List.foldl_append]
              rcases kq3.val (k := Sum.inr y) with ⟨_, e2⟩ | ⟨v1, r1, e1, e2, f1⟩
              · rw [List.foldl_cons, List.foldl_nil, asd_none e2]
                exact Pd.snoc (kq3.imp fun v b f => f.tk tk) ⟨rfl, fz.tk tk⟩
              · rw [e1] at eu; cases eu
        · rintro σ F ⟨o4, rfl, sF, kF, kv2, hk2, kq2⟩
          have hp2 := sF _ _ hp
          walk_at "go"
          refine i_d (fun c => absurd c (by decide +kernel)) (fun _ => ?_)
          walk_at "go"
          refine ⟨_, _, _, rfl, sF, ?_⟩
          rw [bfold_take hw]
          exact ⟨kv2, hk2, kq2⟩
      | wit z u =>
        obtain ⟨p, rfl, hp⟩ := qw
        have hpG := sG _ _ hp
        walk_at "go"
        refine i_d (fun c => absurd c (by decide +kernel)) (fun _ => ?_)
        walk_at "go"
        refine r_lstK fun lb glb => ?_
        walk_at "go"
        have hlbd : lb ≠ d := Ne.symm (ne_of_none hk glb)
        have sb := Same.new (H := G) (o := .lst ([z, u].map V.str)) glb
        have hlb : upd G lb (.lst ([z, u].map V.str)) lb = some (.lst ([z, u].map V.str)) := upd_same
        have dqb : DQ FrQ (upd G lb (.lst ([z, u].map V.str))) d (bfold (ws.take i)) := ⟨kvs, sb _ _ hk, kq.imp fun v b f => f.tk sb.tk⟩
        have sHb := sG.trans sb
        refine (fun (main : ∀ Gb : Hp, Same H Gb → Gb lb = some (.lst ([z, u].map V.str)) → DQ FrQ Gb d (bfold (ws.take i)) → listK _ _ (.ref lb) Gb) => main _ sHb hlb dqb) ?_
        clear dqb hlb sHb sb
        intro Gb sHb hlb dqb
        refine r_listK (SqL.of hlb) ?_
        refine r_forL (xs := [z, u].map V.str) (fun j σ F => ∃ o4, σ = [some (.ref l), some (.ref d), some (.ref p), some (.ref lb), o4] ∧ Same H F ∧ Kp d Gb F ∧ DQ FrQ F d (([z, u].take j).foldl (fun m s => asd m (Sum.inr s) 0) (bfold (ws.take i)))) ⟨_, rfl, sHb, Kp.refl _ _, dqb⟩ ?_ ?_ ?_
        · rintro j σ F _ ⟨o4, rfl, _, kF, _⟩
          exact SqL.of (kF _ _ hlbd hlb)
        · rintro j xv σ F hx ⟨o4, rfl, sF, kF, kv2, hk2, kq2⟩
          rw [List.getElem?_map] at hx
          cases hy : ([z, u] : List Str)[j]? with
          | none => rw [hy] at hx; cases hx
          | some y =>
            rw [hy] at hx
            cases (Option.some.inj hx : V.str y = xv)
            have hj : j < ([z, u] : List Str).length := (List.getElem?_eq_some_iff.mp hy).1
            have et : ([z, u] : List Str).take (j + 1) = ([z, u] : List Str).take j ++ [y] := by rw [List.take_succ_eq_append_getElem hj, (List.getElem?_eq_some_iff.mp hy).2]
            have hkl : kv2.length ≤ 1000 := by
              refine Nat.le_trans (Nat.le_of_eq kq2.len) (Nat.le_trans (foldl_asd_len (([z, u] : List Str).take j) (bfold (ws.take i))) ?_)
              have h2 := bfold_len (ws.take i)
              rw [List.length_take] at h2
              rw [List.length_take]
              have h3 : ([z, u] : List Str).length ≤ 2 := by simp
              omega
            walk_at "go"
            refine r_tupK fun z0 gz => ?_
            have sz := Same.new (H := F) (o := .tup [.int 0, .int 1]) gz
            have hk3 := sz _ _ hk2
            have kq3 := kq2.imp (R' := FrQ) (H' := upd F z0 (.tup [.int 0, .int 1])) fun v b f => f.tk sz.tk
            have fz : FrQ (upd F z0 (.tup [.int 0, .int 1])) (.ref z0) 0 := fr_zero upd_same
            walk_at "go"
            refine r_setdef (c := Sum.inr y) hk3 hkl (fun u eu => ?_) (fun eu => ?_)
            · walk_at "go"
              refine ⟨_, rfl, sF.trans sz, kF.trans sz.kp, kv2, hk3, ?_⟩
              rw [et, List.foldl_append]
              rcases kq3.val (k := Sum.inr y) with ⟨e1, _⟩ | ⟨v1, r1, e1, e2, f1⟩
              · rw [e1] at eu; cases eu
              · rw [List.foldl_cons, List.foldl_nil, asd_some e2]
                exact kq3
            · walk_at "go"
              have tk : TK (upd F z0 (.tup [.int 0, .int 1])) (upd (upd F z0 (.tup [.int 0, .int 1])) d (.dK (kv2 ++ [(Sum.inr y, .ref z0)]))) := TK.dic hk3
              refine ⟨_, rfl, Kp.upd.sm (sF.trans sz) hd, (kF.trans sz.kp).trans Kp.upd, _, upd_same, ?_⟩
              rw [et, List.foldl_append]
              rcases kq3.val (k := Sum.inr y) with ⟨_, e2⟩ | ⟨v1, r1, e1, e2, f1⟩
              · rw [List.foldl_cons, List.foldl_nil, asd_none e2]
                exact Pd.snoc (kq3.imp fun v b f => f.tk tk) ⟨rfl, fz.tk tk⟩
              · rw [e1] at eu; cases eu
        · rintro σ F ⟨o4, rfl, sF, kF, kv2, hk2, kq2⟩
          have hp2 := sF _ _ hp
          walk_at "go"
          refine i_d (fun c => absurd c (by decide +kernel)) (fun _ => ?_)
          walk_at "go"
          refine ⟨_, _, _, rfl, sF, ?_⟩
          rw [bfold_take hw]
          exact ⟨kv2, hk2, kq2⟩
      | frm z r =>
        obtain ⟨p, t, rfl, hp, f⟩ := qw
        have hpG := sG _ _ hp
        walk_at "go"
        refine i_d (fun _ => ?_) (fun c => absurd rfl c)
        walk_at "go"
        refine r_lstK fun lb glb => ?_
        walk_at "go"
        have hlbd : lb ≠ d := Ne.symm (ne_of_none hk glb)
        have sb := Same.new (H := G) (o := .lst ([z].map V.str)) glb
        have hlb : upd G lb (.lst ([z].map V.str)) lb = some (.lst ([z].map V.str)) := upd_same
        have dqb : DQ FrQ (upd G lb (.lst ([z].map V.str))) d (bfold (ws.take i)) := ⟨kvs, sb _ _ hk, kq.imp fun v b f => f.tk sb.tk⟩
        have sHb := sG.trans sb
        refine (fun (main : ∀ Gb : Hp, Same H Gb → Gb lb = some (.lst ([z].map V.str)) → DQ FrQ Gb d (bfold (ws.take i)) → listK _ _ (.ref lb) Gb) => main _ sHb hlb dqb) ?_
        clear dqb hlb sHb sb
        intro Gb sHb hlb dqb
        refine r_listK (SqL.of hlb) ?_
        refine r_forL (xs := [z].map V.str) (fun j σ F => ∃ o4, σ = [some (.ref l), some (.ref d), some (.ref p), some (.ref lb), o4] ∧ Same H F ∧ Kp d Gb F ∧ DQ FrQ F d (([z].take j).foldl (fun m s => asd m (Sum.inr s) 0) (bfold (ws.take i)))) ⟨_, rfl, sHb, Kp.refl _ _, dqb⟩ ?_ ?_ ?_
        · rintro j σ F _ ⟨o4, rfl, _, kF, _⟩
          exact SqL.of (kF _ _ hlbd hlb)
        · rintro j xv σ F hx ⟨o4, rfl, sF, kF, kv2, hk2, kq2⟩
          rw [List.getElem?_map] at hx
          cases hy : ([z] : List Str)[j]? with
          | none => rw [hy] at hx; cases hx
          | some y =>
            rw [hy] at hx
            cases (Option.some.inj hx : V.str y = xv)
            have hj : j < ([z] : List Str).length := (List.getElem?_eq_some_iff.mp hy).1
            have et : ([z] : List Str).take (j + 1) = ([z] : List Str).take j ++ [y] := by rw [List.take_succ_eq_append_getElem hj, (List.getElem?_eq_some_iff.mp hy).2]
            have hkl : kv2.length ≤ 1000 := by
              refine Nat.le_trans (Nat.le_of_eq kq2.len) (Nat.le_trans (foldl_asd_len (([z] : List Str).take j) (bfold (ws.take i))) ?_)
              have h2 := bfold_len (ws.take i)
              rw [List.length_take] at h2
              rw [List.length_take]
              have h3 : ([z] : List Str).length ≤ 2 := by simp
              omega
            walk_at "go"
            refine r_tupK fun z0 gz => ?_
            have sz := Same.new (H := F) (o := .tup [.int 0, .int 1]) gz
            have hk3 := sz _ _ hk2
            have kq3 := kq2.imp (R' := FrQ) (H' := upd F z0 (.tup [.int 0, .int 1])) fun v b f => f.tk sz.tk
            have fz : FrQ (upd F z0 (.tup [.int 0, .int 1])) (.ref z0) 0 := fr_zero upd_same
            walk_at "go"
            refine r_setdef (c := Sum.inr y) hk3 hkl (fun u eu => ?_) (fun eu => ?_)
            · walk_at "go"
              refine ⟨_, rfl, sF.trans sz, kF.trans sz.kp, kv2, hk3, ?_⟩
              rw [et, List.foldl_append]
              rcases kq3.val (k := Sum.inr y) with ⟨e1, _⟩ | ⟨v1, r1, e1, e2, f1⟩
              · rw [e1] at eu; cases eu
              · rw [List.foldl_cons, List.foldl_nil, asd_some e2]
                exact kq3
            · walk_at "go"
              have tk : TK (upd F z0 (.tup [.int 0, .int 1])) (upd (upd F z0 (.tup [.int 0, .int 1])) d (.dK (kv2 ++ [(Sum.inr y, .ref z0)]))) := TK.dic hk3
              refine ⟨_, rfl, Kp.upd.sm (sF.trans sz) hd, (kF.trans sz.kp).trans Kp.upd, _, upd_same, ?_⟩
              rw [et, List.foldl_append]
              rcases kq3.val (k := Sum.inr y) with ⟨_, e2⟩ | ⟨v1, r1, e1, e2, f1⟩
              · rw [List.foldl_cons, List.foldl_nil, asd_none e2]
                exact Pd.snoc (kq3.imp fun v b f => f.tk tk) ⟨rfl, fz.tk tk⟩
              · rw [e1] at eu; cases eu
        · rintro σ F ⟨o4, rfl, sF, kF, kv2, hk2, kq2⟩
          have hp2 := sF _ _ hp
          walk_at "go"
          refine i_d (fun _ => ?_) (fun c => absurd rfl c)
          walk_at "go"
          obtain ⟨r1, er⟩ := asd_has (m := bfold (ws.take i)) (k := (Sum.inr z : Key)) (v := (0 : Rat))
          have kq2' : KQ FrQ F kv2 (asd (bfold (ws.take i)) (Sum.inr z) 0) := kq2
          rcases kq2'.val (k := Sum.inr z) with ⟨_, e2⟩ | ⟨v1, r2, e1, e2, f1⟩
          · rw [er] at e2; cases e2
          rw [er] at e2
          cases e2
          refine r_dGs (.inl hk2) e1 ?_
          walk_at "go"
          have bok := (bfold_ok (Pk := fun _ => True) (Pv := Sz 8000) (by constructor <;> decide +kernel) (ws.take i) fun x hx => ok_sz (hok x (List.mem_of_mem_take hx))).asd (s := z) trivial (by constructor <;> decide +kernel)
          have zr : Sz 8000 r1 := bok.vs _ (aget_mem er)
          have zq : Sz 8000 r := (ok_sz (hok _ (List.mem_of_getElem? hw))).2
          refine ⟨_, _, r1, r, rfl, f1, f.tk sF.tk, zr, zq, ?_⟩
          walk_at "go"
          have hkl : kv2.length ≤ 1000 := by
            refine Nat.le_trans (Nat.le_of_eq kq2'.len) (Nat.le_trans (asd_len (bfold (ws.take i)) (Sum.inr z : Key) (0 : Rat)) ?_)
            have h2 := bfold_len (ws.take i)
            rw [List.length_take] at h2
            omega
          refine i_d (fun c => ?_) (fun c => ?_)
          · walk_at "go"
            refine r_dPs hk2 hkl ?_
            walk_at "go"
            refine ⟨_, _, _, rfl, Kp.upd.sm sF hd, ?_⟩
            rw [bfold_take hw]
            show DQ FrQ _ d (bfrm _ z r)
            unfold bfrm
            rw [er]
            show DQ FrQ _ d (if r1 < r then _ else _)
            rw [if_pos c]
            exact ⟨_, upd_same, (kq2'.put (k := Sum.inr z) (f.tk sF.tk)).imp fun v b f => f.tk (TK.dic hk2)⟩
          · walk_at "go"
            refine ⟨_, _, _, rfl, sF, ?_⟩
            rw [bfold_take hw]
            show DQ FrQ _ d (bfrm _ z r)
            unfold bfrm
            rw [er]
            show DQ FrQ _ d (if r1 < r then _ else _)
            rw [if_neg c]
            exact ⟨kv2, hk2, kq2'⟩
    · rintro σ G ⟨o2, o3, o4, rfl, sG, dq⟩
      rw [hvl, List.take_length] at dq
      walk_at "go"
      exact q d G hd sG dq
set_option maxHeartbeats 0 in
theorem ok_put_off (T : Bl mg) (d : Df K mg "put_off" s_put_off ["steps", "moments", "causes"]  ) (o_is_less : Okf P w K mg base k "is_less" ["one", "other"] spLessQ) (o_added : Okf P w K mg base k "added" ["one", "other"] spAddQ) : Okf P w K mg base (k + 1) "put_off" ["steps", "moments", "causes"] spPut := by
  refine Okf.of d sc_put_off (fun vs H Q E h => ?_) (fun f cdv A outer s H vs Q E hr h => ?_)
  · obtain ⟨ls, dm, dc, S, b, B, m, c, T0, t, N, D, X, rfl, _⟩ := h
    rfl
  · obtain ⟨ls, dm, dc, S, b, B, m, c, T0, t, N, D, X, rfl, ⟨vs', hl, pvs⟩, hm, hc, hdd, hSl, hS, hkm, hkc, I0, ht, hR, hbm, hcl, hN, hB5, q⟩ := h
    refine ⟨_, (@pss_cons _ _ _ _ _ (@ps_set _ _ (i := 3) _ _ _ _ sc_put_off.nd rfl (by first | exact Or.inl rfl | exact Or.inr rfl) (@pe_non _ _ _) (by rfl) (by first | exact .inl rfl | exact .inr rfl | assumption)) (@pss_cons _ _ _ _ _ (@ps_for _ _ _ _ _ _ _ _ PassesOwn.never rfl (@pi_list _ _ _ _ (pv 0)) (@pg_name _ _ (i := 4) _ sc_put_off.nd rfl (by first | exact Or.inl rfl | exact Or.inr rfl) (by first | exact .inl rfl | exact .inr rfl | assumption)) (@pss_cons _ _ _ _ _ (@ps_set _ _ (i := 5) _ _ _ _ sc_put_off.nd rfl (by first | exact Or.inl rfl | exact Or.inr rfl) (@pe_callO _ _ _ _ _ _ _ _ _ _ o_added hr rfl (@pa_cons _ _ _ _ _ (@pe_dget _ _ _ _ _ _ hr.u1 (pv 1) (@pe_ix _ _ _ _ _ _ _ ix_LT (pv 4) (@pe_int _ _ _ _) (fun _ _ => rfl)) (fun _ _ => rfl)) (@pa_cons _ _ _ _ _ (@pe_ix _ _ _ _ _ _ _ ix_LT (pv 4) (@pe_int _ _ _ _) (fun _ _ => rfl)) (@pa_nil _) (by rfl)) (by rfl)) (by decide) (by rfl) (by rfl)) (by rfl) (by first | exact .inl rfl | exact .inr rfl | assumption)) (@pss_one _ _ _ (@ps_if _ _ _ _ _ _ _ _ (@pt_val _ _ _ (@pe_callO _ _ _ _ _ _ _ _ _ _ o_is_less hr rfl (@pa_cons _ _ _ _ _ (@pe_dget _ _ _ _ _ _ hr.u1 (pv 1) (@pe_ix _ _ _ _ _ _ _ ix_LT (pv 4) (@pe_int _ _ _ _) (fun _ _ => rfl)) (fun _ _ => rfl)) (@pa_cons _ _ _ _ _ (pv 5) (@pa_nil _) (by rfl)) (by rfl)) (by decide) (by rfl) (by rfl)) (by intro _; rfl)) (@pss_cons _ _ _ _ _ (@ps_dput _ _ _ _ _ _ _ _ _ hr.u1 (pv 1) (@pe_ix _ _ _ _ _ _ _ ix_LT (pv 4) (@pe_int _ _ _ _) (fun _ _ => rfl)) (pv 5) rfl) (@pss_cons _ _ _ _ _ (@ps_dput _ _ _ _ _ _ _ _ _ hr.u1 (pv 2) (@pe_ix _ _ _ _ _ _ _ ix_LT (pv 4) (@pe_int _ _ _ _) (fun _ _ => rfl)) (pv 4) rfl) (@pss_one _ _ _ (@ps_set _ _ (i := 3) _ _ _ _ sc_put_off.nd rfl (by first | exact Or.inl rfl | exact Or.inr rfl) (@pe_ix _ _ _ _ _ _ _ ix_LT (pv 4) (@pe_int _ _ _ _) (fun _ _ => rfl)) (by rfl) (by first | exact .inl rfl | exact .inr rfl | assumption))))) (@pss_nil _)))) (by intro _; rfl)) (@pss_one _ _ _ (@ps_ret _ _ _ _ (pv 3))))), ?_⟩
    walk_at "go"
    have hvl : vs'.length = S.length := Paired.length pvs
    refine r_listK (SqL.of hl) ?_
    have hlm : ls ≠ dm := by
      obtain ⟨k1, h1, _⟩ := hm
      exact ne_of hl h1 (by intro z; cases z)
    have hlc : ls ≠ dc := by
      obtain ⟨k1, h1, _⟩ := hc
      exact ne_of hl h1 (by intro z; cases z)
    refine r_forL (xs := vs') (fun i σ G => ∃ v m' c' T' late o4 o5, σ = [some (.ref ls), some (.ref dm), some (.ref dc), some v, o4, o5] ∧ Kp2 dm dc H G ∧ OStr v late ∧ DQ FrQ G dm m' ∧ DQ StepQ G dc c' ∧ m'.map (·.1) = B.map Sum.inr ∧ (c'.map (·.1)).Nodup ∧ Bfi S b B (mfun m') (cfun c') T' t i late ∧ (∀ x ∈ m', Bd D (X * (N + i)) x.2) ∧ ∀ x ∈ c', ∃ s ∈ B, x.1 = Sum.inr s) ⟨_, m, c, T0, none, _, _, rfl, fun b o _ _ h => h, rfl, hm, hc, hkm, hkc, I0, hbm, hcl⟩ ?_ ?_ ?_
    · rintro i σ G _ ⟨v, m', c', T', late, o4, o5, rfl, kG, _⟩
      exact SqL.of (kG _ _ hlm hlc hl)
    · rintro i x σ G hx ⟨v, m', c', T', late, o4, o5, rfl, kG, hv, ⟨km, hkm1, kqm⟩, ⟨kc, hkc1, kqc⟩, hk1, hk2, I1, hb1, hc1⟩
      obtain ⟨st, hst, qst⟩ := Paired.at pvs hx
      have hiS : i < S.length := (List.getElem?_eq_some_iff.mp hst).1
      have tkG : TK H G := fun p xs e => kG _ _ (by
        obtain ⟨k1, h1, _⟩ := hm
        exact ne_of e h1 (by intro z; cases z)) (by
        obtain ⟨k1, h1, _⟩ := hc
        exact ne_of e h1 (by intro z; cases z)) e
      obtain ⟨p, tv, rfl, hp, fx⟩ := qst.tk tkG
      obtain ⟨hB1, hB2, hne, hbx⟩ := hS st (List.mem_of_getElem? hst)
      have getm : ∀ s ∈ B, ∃ v1, valV km (Sum.inr s) = some v1 ∧ FrQ G v1 (mfun m' s) ∧ Bd D (X * (N + i)) (mfun m' s) := fun s hs => by
        rcases kqm.val (k := Sum.inr s) with ⟨_, e2⟩ | ⟨v1, r1, e1, e2, f1⟩
        · exact absurd (by rw [hk1]; exact List.mem_map.mpr ⟨s, hs, rfl⟩) (aget_nokey e2)
        · have e3 : mfun m' s = r1 := by unfold mfun; rw [e2]; rfl
          rw [e3]
          exact ⟨v1, e1, f1, hb1 _ (aget_mem e2)⟩
      obtain ⟨v1, e1, f1, b1⟩ := getm _ hB1
      obtain ⟨v2, e2, f2, b2⟩ := getm _ hB2
      walk_at "go"
      refine r_dGs (.inl hkm1) e1 ?_
      walk_at "go"
      refine ⟨_, _, mfun m' st.1, st.2.2.1, rfl, f1, fx, hR.sz (by omega) b1, hR.sz1 hbx, fun vs G1 fs s1 => ?_⟩
      have hkm2 := s1 _ _ hkm1
      have hkc2 := s1 _ _ hkc1
      have hp1 := s1 _ _ hp
      have b3 : Bd D (X * (N + (i + 1))) (mfun m' st.1 + st.2.2.1) := by
        have := Bd.add hR.1 b1 hbx
        rw [show X * (N + (i + 1)) = X * (N + i) + X by rw [← Nat.add_assoc, Nat.mul_add X (N + i) 1, Nat.mul_one]]
        exact this
      walk_at "go"
      refine r_dGs (.inl hkm2) e2 ?_
      walk_at "go"
      refine ⟨_, _, mfun m' st.2.1, _, rfl, f2.tk s1.tk, fs, hR.sz (by omega) b2, hR.sz (by omega) b3, ?_⟩
      walk_at "go"
      have up : ∀ x ∈ m', Bd D (X * (N + (i + 1))) x.2 := fun x hx => (hb1 x hx).mono (Nat.mul_le_mul_left _ (by omega))
      have lkm : km.length ≤ 1000 := by
        have h1 := kqm.len
        have h2 := congrArg List.length hk1
        rw [List.length_map, List.length_map] at h2
        omega
      have lkc : kc.length ≤ 1000 := by
        have h1 := kqc.len
        have h2 : (c'.map (·.1)).length ≤ (B.map (Sum.inr : Str → Key)).length := nd_len hk2 fun k hk => by
          obtain ⟨x, hx, rfl⟩ := List.mem_map.mp hk
          obtain ⟨s, hs, e⟩ := hc1 x hx
          rw [e]
          exact List.mem_map.mpr ⟨s, hs, rfl⟩
        rw [List.length_map, List.length_map] at h2
        omega
      have kqm1 : KQ FrQ G1 km m' := kqm.imp fun v b f => f.tk s1.tk
      have kqc1 : KQ StepQ G1 kc c' := kqc.imp fun v b f => f.tk s1.tk
      refine i_d (fun cl => ?_) (fun cl => ?_)
      · walk_at "go"
        refine r_dPs hkm2 lkm ?_
        have tk2 : TK G1 (upd G1 dm (.dK (putK km (Sum.inr st.2.1) vs))) := TK.dic hkm2
        have hp2 := tk2 _ _ hp1
        have hkc3 : upd G1 dm (.dK (putK km (Sum.inr st.2.1) vs)) dc = some (.dK kc) := by rw [upd_ne (Ne.symm hdd)]; exact hkc2
        have kqm2 : KQ FrQ (upd G1 dm (.dK (putK km (Sum.inr st.2.1) vs))) (putK km (Sum.inr st.2.1) vs) (aput m' (Sum.inr st.2.1) (mfun m' st.1 + st.2.2.1)) := (kqm1.put (k := Sum.inr st.2.1) fs).imp fun v b f => f.tk tk2
        have kqc2 : KQ StepQ (upd G1 dm (.dK (putK km (Sum.inr st.2.1) vs))) kc c' := kqc1.imp fun v b f => f.tk tk2
        have qs2 : StepQ (upd G1 dm (.dK (putK km (Sum.inr st.2.1) vs))) (.ref p) st := ⟨p, tv, rfl, hp2, (fx.tk s1.tk).tk tk2⟩
        have hm2 := upd_same (H := G1) (a := dm) (o := .dK (putK km (Sum.inr st.2.1) vs))
        have k2 : Kp2 dm dc H (upd G1 dm (.dK (putK km (Sum.inr st.2.1) vs))) := fun b o h1 h2 h => by rw [upd_ne h1]; exact s1 _ _ (kG _ _ h1 h2 h)
        generalize upd G1 dm (.dK (putK km (Sum.inr st.2.1) vs)) = G2 at hp2 hkc3 kqm2 kqc2 qs2 hm2 k2 ⊢
        walk_at "go"
        refine r_dPs hkc3 lkc ?_
        have tk3 : TK G2 (upd G2 dc (.dK (putK kc (Sum.inr st.2.1) (.ref p)))) := TK.dic hkc3
        have hp3 := tk3 _ _ hp2
        walk_at "go"
        have em : aget m' (Sum.inr st.2.1) = some (mfun m' st.2.1) := by
          rcases kqm.val (k := Sum.inr st.2.1) with ⟨z, _⟩ | ⟨v3, r3, e3, e4, _⟩
          · rw [z] at e2; cases e2
          · unfold mfun; rw [e4]; rfl
        refine ⟨_, aput m' (Sum.inr st.2.1) (mfun m' st.1 + st.2.2.1), aput c' (Sum.inr st.2.1) st, updS T' st.2.1 t, some st.2.1, _, _, rfl, fun b o h1 h2 h => by rw [upd_ne h2]; exact k2 _ _ h1 h2 h, rfl, ⟨_, by rw [upd_ne hdd]; exact hm2, kqm2.imp fun v b f => f.tk tk3⟩, ⟨_, upd_same, (kqc2.put (k := Sum.inr st.2.1) qs2).imp fun v b f => f.tk tk3⟩, (aput_keys_eq em).trans hk1, aput_nd hk2, ?_, fun x hx => ?_, fun x hx => ?_⟩
        · rw [mfun_put, cfun_put]
          exact I1.step hst hB2 hne ht cl
        · rcases aput_mem_of hx with rfl | hx
          · exact b3
          · exact up x hx
        · rcases aput_mem_of hx with rfl | hx
          · exact ⟨_, hB2, rfl⟩
          · exact hc1 x hx
      · walk_at "go"
        exact ⟨_, m', c', T', late, _, _, rfl, fun b o h1 h2 h => s1 _ _ (kG _ _ h1 h2 h), hv, ⟨km, hkm2, kqm1⟩, ⟨kc, hkc2, kqc1⟩, hk1, hk2, I1.skip hst cl, up, hc1⟩
    · rintro σ G ⟨v, m', c', T', late, o4, o5, rfl, kG, hv, hm', hc', hk1, hk2, I1, hb1, hc1⟩
      rw [hvl] at I1 hb1
      walk_at "go"
      exact q v G m' c' T' late kG hv hm' hc' hk1 hk2 I1 hb1 hc1
set_option maxHeartbeats 0 in
theorem ok_ring_behind (T : Bl mg) (d : Df K mg "ring_behind" s_ring_behind ["bell", "causes"]  ) : Okf P w K mg base (k + 1) "ring_behind" ["bell", "causes"] spRingB := by
  refine Okf.of d sc_ring_behind (fun vs H Q E h => ?_) (fun f cdv A outer s H vs Q E hr h => ?_)
  · obtain ⟨u, dc, S, c, P0, rfl, _⟩ := h
    rfl
  · obtain ⟨u, dc, S, c, P0, rfl, ⟨kc, hkc, kqc⟩, hc5, hin, hcyc, hP1, hP2, hP, cin, cyc, q⟩ := h
    refine ⟨_, (@pss_cons _ _ _ _ _ (@ps_for _ _ _ _ _ _ _ _ PassesOwn.never rfl (@pi_range1 _ _ _ _ _ _ rfl T.z_range (@pa_cons _ _ _ _ _ (@pe_callB _ _ _ _ _ _ _ _ _ c_lenD rfl T.z_len bt_len (@pa_cons _ _ _ _ _ (pv 1) (@pa_nil _) (by rfl)) (by decide) (by decide) (by rfl) (by rfl)) (@pa_nil _) (by rfl)) (by rfl)) (@pg_name _ _ (i := 2) _ sc_ring_behind.nd rfl (by first | exact Or.inl rfl | exact Or.inr rfl) (by first | exact .inl rfl | exact .inr rfl | assumption)) (@pss_one _ _ _ (@ps_set _ _ (i := 0) _ _ _ _ sc_ring_behind.nd rfl (by first | exact Or.inl rfl | exact Or.inr rfl) (@pe_ix _ _ _ _ _ _ _ ix_LT (@pe_dget _ _ _ _ _ _ hr.u1 (pv 1) (pv 0) (fun _ _ => rfl)) (@pe_int _ _ _ _) (fun _ _ => rfl)) (by rfl) (by first | exact .inl rfl | exact .inr rfl | assumption))) (by intro _; rfl)) (@pss_cons _ _ _ _ _ (@ps_set _ _ (i := 3) _ _ _ _ sc_ring_behind.nd rfl (by first | exact Or.inl rfl | exact Or.inr rfl) (@pe_lst _ _ _ _ (@pa_cons _ _ _ _ _ (@pe_dget _ _ _ _ _ _ hr.u1 (pv 1) (pv 0) (fun _ _ => rfl)) (@pa_nil _) (by rfl))) (by rfl) (by first | exact .inl rfl | exact .inr rfl | assumption)) (@pss_cons _ _ _ _ _ (@ps_while _ _ _ _ _ _ PassesOwn.never (@pt_cmpR _ _ _ _ _ _ _ _ (op_neA hr.units) (@pe_ix _ _ _ _ _ _ _ ix_LT (@pe_ix _ _ _ _ _ _ _ ix_LT (pv 3) (@pe_un _ _ _ _ _ _ un_neg (@pe_int _ _ _ _)) (fun _ _ => rfl)) (@pe_int _ _ _ _) (fun _ _ => rfl)) (pv 0) (nomark _)) (@pss_one _ _ _ (@ps_expr _ _ _ _ (@pe_bm _ _ _ _ _ _ _ _ _ _ _ _ PySem.F.plainAttrs_list PySem.F.slot_list_append PySem.F.type_list_append mt_append (pv 3) (@pa_cons _ _ _ _ _ (@pe_dget _ _ _ _ _ _ hr.u1 (pv 1) (@pe_ix _ _ _ _ _ _ _ ix_LT (@pe_ix _ _ _ _ _ _ _ ix_LT (pv 3) (@pe_un _ _ _ _ _ _ un_neg (@pe_int _ _ _ _)) (fun _ _ => rfl)) (@pe_int _ _ _ _) (fun _ _ => rfl)) (fun _ _ => rfl)) (@pa_nil _) (by rfl)) (by rfl) (by rfl) (by rfl) (by rfl) (by rfl)) (by rfl)))) (@pss_one _ _ _ (@ps_ret _ _ _ _ (@pe_lrev _ _ _ _ _ _ _ rfl rfl T.z_list rfl T.z_reversed (pv 3) (by rfl) (by rfl))))))), ?_⟩
    have hkl : kc.length = List.length (α := Key × Stp) c := kqc.len
    have getc : ∀ {G : Hp}, Same H G → ∀ s st, cfun c s = some st → ∃ v1, valV kc (Sum.inr s) = some v1 ∧ StepQ G v1 st := fun sG s st e => by
      rcases kqc.val (k := Sum.inr s) with ⟨_, e2⟩ | ⟨v1, r1, e1, e2, f1⟩
      · unfold cfun at e
        rw [e2] at e
        cases e
      · unfold cfun at e
        rw [e2] at e
        cases e
        exact ⟨v1, e1, f1.tk sG.tk⟩
    walk_at "go"
    refine r_lenDk hkc ?_
    walk_at "go"
    refine r_rng1K (by omega) (by omega) ?_
    rw [show ((kc.length : Int)).toNat = kc.length by omega]
    refine r_forR (n := kc.length) (fun i σ G => ∃ o2 o3, σ = [some (.str (itr (bk (cfun c)) i u)), some (.ref dc), o2, o3] ∧ G = H) ⟨_, _, rfl, rfl⟩ ?_ ?_
    · rintro i σ G hi ⟨o2, o3, rfl, rfl⟩
      cases hst : cfun c (itr (bk (cfun c)) i u) with
      | none => exact absurd hst (hin i (by omega))
      | some st =>
        obtain ⟨v1, e1, p, t, rfl, hp, fx⟩ := getc (Same.refl _) _ _ hst
        walk_at "go"
        refine r_dGs (.inl hkc) e1 ?_
        walk_at "go"
        refine ⟨some (.int (0 + i)), o3, ?_, rfl⟩
        rw [itr_succ, bk_of hst]
        rfl
    · rintro σ G ⟨o2, o3, rfl, rfl⟩
      rw [hkl]
      generalize itr (bk (cfun c)) (List.length (α := Key × Stp) c) u = b0 at hcyc hP ⊢
      cases hst : cfun c b0 with
      | none => exact absurd hst (hcyc 0)
      | some st =>
        obtain ⟨v1, e1, q1⟩ := getc (Same.refl _) _ _ hst
        walk_at "go"
        refine r_dGs (.inl hkc) e1 ?_
        walk_at "go"
        refine r_lstK fun lr glr => ?_
        walk_at "go"
        refine r_while (fun σ F => ∃ k ini vl st, σ = [some (.str b0), some (.ref dc), o2, some (.ref lr)] ∧ Same G F ∧ F lr = some (.lst (ini ++ [vl])) ∧ Paired (StepQ F) ini (backs (cfun c) k b0) ∧ cfun c (itr (bk (cfun c)) k b0) = some st ∧ StepQ F vl st ∧ ∀ j, 0 < j → j ≤ k → itr (bk (cfun c)) j b0 ≠ b0)
          (fun σ F => P0 - (match F lr with | some (.lst xs) => xs.length | _ => 0)) ⟨0, [], v1, st, rfl, Same.new glr, upd_same, .nil, hst, q1.tk (Same.new glr).tk, fun j h1 h2 => by omega⟩ ?_
        rintro σ F ⟨k, ini, vl, st, rfl, sF, hF, pF, hk, qv, hno⟩
        have hl := Paired.length pF
        rw [backs_len hcyc k] at hl
        obtain ⟨p, t, rfl, hp, fx⟩ := id qv
        have enx : itr (bk (cfun c)) (k + 1) b0 = st.1 := by rw [itr_succ, bk_of hk]
        have hkP : k + 1 ≤ P0 := Nat.le_of_not_lt fun hlt => hno P0 (by omega) (by omega) hP
        walk_at "go"
        refine r_ixl hF (atI_last _ _) ?_
        walk_at "go"
        refine i_d (fun ce => ?_) (fun ce => ?_)
        · walk_at "go"
          refine r_rev ?_
          walk_at "go"
          refine ⟨lr, _, rfl, hF, fun lo glo => ?_⟩
          walk_at "go"
          have pall : Paired (StepQ (upd F lo (.lst (ini ++ [V.ref p]).reverse))) (ini ++ [V.ref p]).reverse (backs (cfun c) (k + 1) b0).reverse := by
            rw [backs_succ hk]
            exact pd_rev (pd_app (Pd.imp pF fun v b h => h.tk (Same.new glo).tk) (.cons (qv.tk (Same.new glo).tk) .nil))
          refine q lo _ _ (sF.free glo) (sF.trans (Same.new glo)) ⟨_, upd_same, pall⟩ (ring_ok (k := k + 1) hcyc cin cyc (by omega) (by rw [enx]; exact ce) fun j h1 h2 => hno j h1 (by omega)) ?_
          rw [List.length_reverse, backs_len hcyc]
          omega
        · refine wh_T ?_
          have hkP2 : k + 1 < P0 := Nat.lt_of_le_of_ne hkP fun e => ce (by rw [← enx, e]; exact hP)
          cases hs2 : cfun c (itr (bk (cfun c)) (k + 1) b0) with
          | none => exact absurd hs2 (hcyc (k + 1))
          | some st2 =>
            obtain ⟨v2, e2, q2⟩ := getc sF _ _ hs2
            rw [enx] at e2
            walk_at "go"
            refine r_ixl hF (atI_last _ _) ?_
            walk_at "go"
            refine r_dGs (.inl (sF _ _ hkc)) e2 ?_
            walk_at "go"
            refine r_app hF (by simp; omega) ?_
            walk_at "go"
            have tk : TK F (upd F lr (.lst (ini ++ [V.ref p] ++ [v2]))) := TK.lst hF
            have s2 : Same G (upd F lr (.lst (ini ++ [V.ref p] ++ [v2]))) := Kp.upd.sm sF glr
            refine ⟨⟨k + 1, ini ++ [.ref p], v2, st2, rfl, s2, upd_same, ?_, hs2, q2.tk tk, fun j h1 h2 => ?_⟩, ?_⟩
            · rw [backs_succ hk]
              exact pd_app (Pd.imp pF fun v b h => h.tk tk) (.cons (qv.tk tk) .nil)
            · by_cases ej : j = k + 1
              · rw [ej, enx]
                exact ce
              · exact hno j h1 (by omega)
            · show P0 - (match (upd F lr (.lst (ini ++ [V.ref p] ++ [v2]))) lr with | some (.lst xs) => xs.length | _ => 0) < P0 - (match F lr with | some (.lst xs) => xs.length | _ => 0)
              rw [upd_same, hF]
              simp
              omega
set_option maxHeartbeats 0 in
theorem ok_played_at (T : Bl mg) (d : Df K mg "played_at" s_played_at ["wishes"]  ) (o_ring_behind : Okf P w K mg base k "ring_behind" ["bell", "causes"] spRingB) (o_put_off : Okf P w K mg base k "put_off" ["steps", "moments", "causes"] spPut) (o_first_moments : Okf P w K mg base k "first_moments" ["wishes"] spFirst) (o_steps_of : Okf P w K mg base k "steps_of" ["wishes"] spStepsOf) : Okf P w K mg base (k + 1) "played_at" ["wishes"] spPlayed := by
  refine Okf.of d sc_played_at (fun vs H Q E h => ?_) (fun f cdv A outer s H vs Q E hr h => ?_)
  · obtain ⟨l, ws, D, X, rfl, _⟩ := h
    rfl
  · obtain ⟨l, ws, D, X, rfl, hws, hok, hlen, hbd, hR, q1, q2⟩ := h
    refine ⟨_, (@pss_cons _ _ _ _ _ (@ps_set _ _ (i := 1) _ _ _ _ sc_played_at.nd rfl (by first | exact Or.inl rfl | exact Or.inr rfl) (@pe_callO _ _ _ _ _ _ _ _ _ _ o_steps_of hr rfl (@pa_cons _ _ _ _ _ (pv 0) (@pa_nil _) (by rfl)) (by decide) (by rfl) (by rfl)) (by rfl) (by first | exact .inl rfl | exact .inr rfl | assumption)) (@pss_cons _ _ _ _ _ (@ps_set _ _ (i := 2) _ _ _ _ sc_played_at.nd rfl (by first | exact Or.inl rfl | exact Or.inr rfl) (@pe_callO _ _ _ _ _ _ _ _ _ _ o_first_moments hr rfl (@pa_cons _ _ _ _ _ (pv 0) (@pa_nil _) (by rfl)) (by decide) (by rfl) (by rfl)) (by rfl) (by first | exact .inl rfl | exact .inr rfl | assumption)) (@pss_cons _ _ _ _ _ (@ps_set _ _ (i := 3) _ _ _ _ sc_played_at.nd rfl (by first | exact Or.inl rfl | exact Or.inr rfl) (@pe_dnewK _ _) (by rfl) (by first | exact .inl rfl | exact .inr rfl | assumption)) (@pss_cons _ _ _ _ _ (@ps_set _ _ (i := 4) _ _ _ _ sc_played_at.nd rfl (by first | exact Or.inl rfl | exact Or.inr rfl) (@pe_callO _ _ _ _ _ _ _ _ _ _ o_put_off hr rfl (@pa_cons _ _ _ _ _ (pv 1) (@pa_cons _ _ _ _ _ (pv 2) (@pa_cons _ _ _ _ _ (pv 3) (@pa_nil _) (by rfl)) (by rfl)) (by rfl)) (by decide) (by rfl) (by rfl)) (by rfl) (by first | exact .inl rfl | exact .inr rfl | assumption)) (@pss_cons _ _ _ _ _ (@ps_set _ _ (i := 5) _ _ _ _ sc_played_at.nd rfl (by first | exact Or.inl rfl | exact Or.inr rfl) (@pe_int _ _ _ _) (by rfl) (by first | exact .inl rfl | exact .inr rfl | assumption)) (@pss_cons _ _ _ _ _ (@ps_while _ _ _ _ _ _ PassesOwn.never (@PW.pt _ _ _ (@pw_and _ _ _ _ _ _ _ (@pt_cmpR _ _ _ _ _ _ _ _ op_notN2 (pv 4) (@pe_non _ _ _) (nomark _)) (@pw_and1 _ _ _ _ (@pt_cmpR _ _ _ _ _ _ _ _ op_lt (pv 5) (@pe_callB _ _ _ _ _ _ _ _ _ c_lenD rfl T.z_len bt_len (@pa_cons _ _ _ _ _ (pv 2) (@pa_nil _) (by rfl)) (by decide) (by decide) (by rfl) (by rfl)) (nomark _))))) (@pss_cons _ _ _ _ _ (@ps_set _ _ (i := 4) _ _ _ _ sc_played_at.nd rfl (by first | exact Or.inl rfl | exact Or.inr rfl) (@pe_callO _ _ _ _ _ _ _ _ _ _ o_put_off hr rfl (@pa_cons _ _ _ _ _ (pv 1) (@pa_cons _ _ _ _ _ (pv 2) (@pa_cons _ _ _ _ _ (pv 3) (@pa_nil _) (by rfl)) (by rfl)) (by rfl)) (by decide) (by rfl) (by rfl)) (by rfl) (by first | exact .inl rfl | exact .inr rfl | assumption)) (@pss_one _ _ _ (@ps_aug _ _ (i := 5) _ _ _ _ _ _ sc_played_at.nd rfl (by first | exact Or.inl rfl | exact Or.inr rfl) (@pe_int _ _ _ _) ip_add (by first | exact .inl rfl | exact .inr rfl))))) (@pss_cons _ _ _ _ _ (@ps_if _ _ _ _ _ _ _ _ (@pt_cmpR _ _ _ _ _ _ _ _ op_isN2 (pv 4) (@pe_non _ _ _) (nomark _)) (@pss_one _ _ _ (@ps_ret _ _ _ _ (@pe_tup _ _ _ _ _ (@pa_cons _ _ _ _ _ (@pe_str _ _ _ _) (@pa_cons _ _ _ _ _ (pv 2) (@pa_nil _) (by rfl)) (by rfl))))) (@pss_nil _)) (@pss_one _ _ _ (@ps_ret _ _ _ _ (@pe_tup _ _ _ _ _ (@pa_cons _ _ _ _ _ (@pe_str _ _ _ _) (@pa_cons _ _ _ _ _ (@pe_callO _ _ _ _ _ _ _ _ _ _ o_ring_behind hr rfl (@pa_cons _ _ _ _ _ (pv 4) (@pa_cons _ _ _ _ _ (pv 3) (@pa_nil _) (by rfl)) (by rfl)) (by decide) (by rfl) (by rfl)) (@pa_nil _) (by rfl)) (by rfl)))))))))))), ?_⟩
    walk_at "go"
    refine ⟨l, ws, rfl, hws, hok, by omega, fun ls H1 hls s1 hS => ?_⟩
    walk_at "go"
    refine ⟨l, ws, rfl, hws.sm WishQ.tk s1, hok, by omega, fun dm H2 hdm s2 hm => ?_⟩
    walk_at "go"
    refine r_dnew fun dc hdc => ?_
    have s3 := Same.new (H := H2) (o := .dK []) hdc
    have hc : DQ StepQ (upd H2 dc (.dK [])) dc [] := ⟨[], upd_same, .nil⟩
    have hm3 : DQ FrQ (upd H2 dc (.dK [])) dm (bfold ws) := hm.sm FrQ.tk s3
    have hS3 : LQ StepQ (upd H2 dc (.dK [])) ls (stepsOf ws) := hS.sm StepQ.tk (s2.trans s3)
    have hdd : dm ≠ dc := by
      obtain ⟨k1, h1, _⟩ := hm
      exact ne_of_none h1 hdc
    have s03 := (s1.trans s2).trans s3
    have fdm : H dm = none := s1.free hdm
    have fdc : H dc = none := (s1.trans s2).free hdc
    generalize upd H2 dc (.dK []) = H3 at s3 hc hm3 hS3 s03 ⊢
    clear hm hS s3
    have bok := bfold_ok (Pk := fun _ => True) (Pv := Bd D X) (Bd.zero D X) ws fun w' hw => (by
      cases w' with
      | after _ _ _ => exact ⟨trivial, trivial⟩
      | within _ _ _ => exact ⟨trivial, trivial⟩
      | wit _ _ => exact ⟨trivial, trivial⟩
      | frm _ _ => exact ⟨trivial, hbd _ hw⟩)
    obtain ⟨B, hB⟩ := keysS (bfold ws) fun x hx => let ⟨s, e, _⟩ := bok.ks x hx; ⟨s, e⟩
    have hBn : B.Nodup := nd_inr (by rw [← hB]; exact bok.nd)
    have hBl : B.length ≤ 400 := by
      have h1 := congrArg List.length hB
      rw [List.length_map, List.length_map] at h1
      have h2 := bfold_len ws
      exact Nat.le_trans (Nat.le_of_eq h1.symm) (Nat.le_trans h2 (by omega))
    have hasBB : ∀ s, hasB (bfold ws) s → s ∈ B := fun s ⟨q0, e⟩ => by
      have : (Sum.inr s : Key) ∈ (bfold ws).map (·.1) := List.mem_map.mpr ⟨_, aget_mem e, rfl⟩
      rw [hB] at this
      obtain ⟨z, hz, ez⟩ := List.mem_map.mp this
      cases ez
      exact hz
    have hSB : ∀ st ∈ stepsOf ws, st.1 ∈ B ∧ st.2.1 ∈ B ∧ st.1 ≠ st.2.1 ∧ Bd D X st.2.2.1 := fun st hst => by
      obtain ⟨w', hw, j, hj⟩ := stepsFrom_mem hst
      have hb := stepsBy_bells hj
      exact ⟨hasBB _ (bfold_has hw hb.1), hasBB _ (bfold_has hw hb.2), stepsBy_ne (hok _ hw) hj, stepsBy_bd (hbd _ hw) hj⟩
    have hSl : (stepsOf ws).length ≤ 400 := by have := steps_len ws; omega
    have c0 : cfun [] = fun _ => none := rfl
    have I0 : Bfi (stepsOf ws) (mfun (bfold ws)) B (mfun (bfold ws)) (cfun []) (fun _ => 0) 1 0 none := Bfi.start _ _ _
    walk_at "go"
    refine ⟨ls, dm, dc, stepsOf ws, mfun (bfold ws), B, bfold ws, [], _, 1, 1, D, X, rfl, hS3, hm3, hc, hdd, by omega, hSB, hB, List.nodup_nil, I0, Nat.le_refl _, hR, (fun x hx => by rw [Nat.mul_one]; exact bok.vs x hx), (fun x hx => by cases hx), by omega, by omega, fun v H4 m c T1 late k4 hv hm4 hc4 hmk hcn I1 hb1 hc1 => ?_⟩
    walk_at "go"
    have hml : ∀ {m : AL Key Rat}, m.map (·.1) = B.map Sum.inr → List.length (α := Key × Rat) m = B.length := fun {m} e => by
      have h1 := congrArg List.length e
      rw [List.length_map, List.length_map] at h1
      exact h1
    refine r_while (fun σ G => ∃ v m c T1 late t, σ = [some (.ref l), some (.ref ls), some (.ref dm), some (.ref dc), some v, some (.int ((t : Nat) : Int))] ∧ Kp2 dm dc H3 G ∧ OStr v late ∧ DQ FrQ G dm m ∧ DQ StepQ G dc c ∧ m.map (·.1) = B.map Sum.inr ∧ (c.map (·.1)).Nodup ∧ Bfi (stepsOf ws) (mfun (bfold ws)) B (mfun m) (cfun c) T1 t (stepsOf ws).length late ∧ (∀ x ∈ m, Bd D (X * (1 + t * 400)) x.2) ∧ (∀ x ∈ c, ∃ s ∈ B, x.1 = Sum.inr s) ∧ 1 ≤ t ∧ t ≤ 401)
      (fun σ _ => match σ with | [_, _, _, _, _, some (.int z)] => 500 - z.toNat | _ => 0) ⟨v, m, c, T1, late, 1, rfl, k4, hv, hm4, hc4, hmk, hcn, I1, fun x hx => (hb1 x hx).mono (Nat.mul_le_mul_left _ (by omega)), hc1, Nat.le_refl _, by omega⟩ ?_
    rintro σ G ⟨v, m, c, T1, late, t, rfl, kG, hv, ⟨km, hkm, kqm⟩, hcG, hmk, hcn, I1, hb1, hc1, ht1, ht2⟩
    have sHG : Same H G := fun b o hb => kG _ _ (ne_of_none hb fdm) (ne_of_none hb fdc) (s03 _ _ hb)
    have lkm : km.length = B.length := kqm.len.trans (hml hmk)
    cases late with
    | none =>
      cases (show v = .non from hv)
      walk_at "go"
      refine r_tupK fun p hp => ?_
      walk_at "go"
      have sp := Same.new (H := G) (o := .tup [.str "moments", .ref dm]) hp
      refine q1 p dm _ m (sHG.free hp) fdm (sHG.trans sp) upd_same ⟨km, sp _ _ hkm, kqm.imp fun v b f => f.tk sp.tk⟩ (hmk.trans hB.symm) I1.ge (fun st hst => I1.ln rfl st (by rw [List.take_length]; exact hst)) I1.wk fun x hx => (hb1 x hx).mono (Nat.mul_le_mul_left _ (by omega))
    | some u =>
      cases (show v = .str u from hv)
      walk_at "go"
      refine r_lenDk hkm ?_
      walk_at "go"
      refine i_d (fun ct => ?_) (fun ct => ?_)
      · refine wh_T ?_
        walk_at "go"
        have hSG : LQ StepQ G ls (stepsOf ws) := by
          obtain ⟨vs3, h3, p3⟩ := hS3
          have tk : TK H3 G := fun p xs e => kG _ _ (by
            obtain ⟨k1, h1, _⟩ := hm3
            exact ne_of e h1 (by intro z; cases z)) (by
            obtain ⟨k1, h1, _⟩ := hc
            exact ne_of e h1 (by intro z; cases z)) e
          exact ⟨vs3, kG _ _ (by
            obtain ⟨k1, h1, _⟩ := hm3
            exact ne_of h3 h1 (by intro z; cases z)) (by
            obtain ⟨k1, h1, _⟩ := hc
            exact ne_of h3 h1 (by intro z; cases z)) h3, Pd.imp p3 fun v b h => h.tk tk⟩
        refine ⟨ls, dm, dc, stepsOf ws, mfun (bfold ws), B, m, c, T1, t + 1, 1 + t * 400, D, X, rfl, hSG, ⟨km, hkm, kqm⟩, hcG, hdd, by omega, hSB, hmk, hcn, I1.turn, by omega, hR, hb1, hc1, by omega, by omega, fun v5 H5 m5 c5 T5 late5 k5 hv5 hm5 hc5 hmk5 hcn5 I5 hb5 hc15 => ?_⟩
        walk_at "go"
        refine r_augI rfl ?_
        walk_at "go"
        refine ⟨_, _, rfl, rfl, ?_⟩
        refine ⟨⟨v5, m5, c5, T5, late5, t + 1, rfl, fun b o h1 h2 h => k5 _ _ h1 h2 (kG _ _ h1 h2 h), hv5, hm5, hc5, hmk5, hcn5, I5, fun x hx => (hb5 x hx).mono (Nat.mul_le_mul_left _ (by omega)), hc15, by omega, by omega⟩, ?_⟩
        show 500 - (((t : Nat) : Int) + 1).toNat < 500 - ((t : Nat) : Int).toNat
        omega
      · walk_at "go"
        obtain ⟨L, eL⟩ := keysS c fun x hx => let ⟨s, _, e⟩ := hc1 x hx; ⟨s, e⟩
        have lL : L.length = List.length (α := Key × Stp) c := by
          have h1 := congrArg List.length eL
          rw [List.length_map, List.length_map] at h1
          exact h1.symm
        have ndL : L.Nodup := nd_inr (by rw [← eL]; exact hcn)
        obtain ⟨r1, r2, P0, r3, r4, r5⟩ := I1.ring (fun st hst => ⟨(hSB st hst).1, (hSB st hst).2.1⟩) hBn (by omega) (L := L) (cfun_mem eL) ndL
        have lLB : L.length ≤ 400 := Nat.le_trans (nd_len ndL fun k hk => (by
          have : (Sum.inr k : Key) ∈ c.map (·.1) := by rw [eL]; exact List.mem_map.mpr ⟨k, hk, rfl⟩
          obtain ⟨x, hx, ex⟩ := List.mem_map.mp this
          obtain ⟨s, hs, es⟩ := hc1 x hx
          rw [es] at ex
          cases ex
          exact hs)) hBl
        rw [lL] at r1 r2 r4 r5
        refine ⟨u, dc, stepsOf ws, c, P0, rfl, hcG, by omega, r1, r2, r3, by omega, r5, I1.cin, I1.cyc, fun lr H5 R hlr s5 hR5 rok rl => ?_⟩
        walk_at "go"
        refine r_tupK fun p hp => ?_
        walk_at "go"
        have sp := Same.new (H := H5) (o := .tup [.str "ring", .ref lr]) hp
        exact q2 p lr _ R ((sHG.trans s5).free hp) (sHG.free hlr) ((sHG.trans s5).trans sp) upd_same (hR5.sm StepQ.tk sp) rok rl
theorem ok_cell_at (T : Bl mg) (d : Df K mg "_law_cell_at" s_cell_at ["_law_script", "_law_k"]  ) : Okf P w K mg base (k + 1) "_law_cell_at" ["_law_script", "_law_k"] (spCell K) := by
  refine Okf.of d sc_cell_at (fun vs H Q E h => ?_) (fun f cdv A outer s H vs Q E hr h => ?_)
  · obtain ⟨a, ns, k', rfl, _⟩ := h
    rfl
  · obtain ⟨a, ns, k', rfl, hS, h0, q⟩ := h
    refine ⟨_, (@pss_cons _ _ _ _ _ (@ps_if _ _ _ _ _ _ _ _ (@pt_cmpR _ _ _ _ _ _ _ _ op_lt (pv 1) (@pe_callB _ _ _ _ _ _ _ _ _ c_len rfl T.z_len bt_len (@pa_cons _ _ _ _ _ (pv 0) (@pa_nil _) (by rfl)) (by decide) (by decide) (by rfl) (by rfl)) (nomark _)) (@pss_one _ _ _ (@ps_ret _ _ _ _ (@pe_ix _ _ _ _ _ _ _ ix_LT (pv 0) (pv 1) (fun _ _ => rfl)))) (@pss_nil _)) (@pss_one _ _ _ (@ps_ret _ _ _ _ (@pe_int _ _ _ _)))), ?_⟩
    walk_at "go"
    refine r_lenL hS ?_
    walk_at "go"
    refine i_d (fun c => ?_) (fun c => ?_)
    · rw [List.length_map] at c
      obtain ⟨z, _, hz⟩ := pick (ns := ns) h0 c
      walk_at "go"
      refine r_ixs hS hz ?_
      walk_at "go"
      exact q z
    · walk_at "go"
      exact q 0
set_option maxHeartbeats 0 in
theorem ok_number (T : Bl mg) (d : Df K mg "_law_number" s_number ["_law_script", "_law_k"]  ) (o_cell_at : Okf P w K mg base k "_law_cell_at" ["_law_script", "_law_k"] (spCell K)) : Okf P w K mg base (k + 1) "_law_number" ["_law_script", "_law_k"] (spNumW K) := by
  refine Okf.of d sc_number (fun vs H Q E h => ?_) (fun f cdv A outer s H vs Q E hr h => ?_)
  · obtain ⟨a, ns, k', rfl, _⟩ := h
    rfl
  · obtain ⟨a, ns, k', rfl, hS, h0, hk, q⟩ := h
    refine ⟨_, (@pss_cons _ _ _ _ _ (@ps_set _ _ (i := 2) _ _ _ _ sc_number.nd rfl (by first | exact Or.inl rfl | exact Or.inr rfl) (@pe_callO _ _ _ _ _ _ _ _ _ _ o_cell_at hr rfl (@pa_cons _ _ _ _ _ (pv 0) (@pa_cons _ _ _ _ _ (pv 1) (@pa_nil _) (by rfl)) (by rfl)) (by decide) (by rfl) (by rfl)) (by rfl) (by first | exact .inl rfl | exact .inr rfl | assumption)) (@pss_cons _ _ _ _ _ (@ps_if _ _ _ _ _ _ _ _ (@PW.pt _ _ _ (@pw_and _ _ _ _ _ _ _ (@pt_cmpR _ _ _ _ _ _ _ _ (op_eqA hr.units) (@pe_op _ _ _ _ _ _ _ _ op_mod (@pe_callO _ _ _ _ _ _ _ _ _ _ o_cell_at hr rfl (@pa_cons _ _ _ _ _ (pv 0) (@pa_cons _ _ _ _ _ (@pe_int _ _ _ _) (@pa_nil _) (by rfl)) (by rfl)) (by decide) (by rfl) (by rfl)) (@pe_int _ _ _ _)) (@pe_int _ _ _ _) (nomark _)) (@pw_and1 _ _ _ _ (@pt_cmpR _ _ _ _ _ _ _ _ op_ge (pv 2) (@pe_op _ _ _ _ _ _ _ _ op_pow (@pe_int _ _ _ _) (@pe_int _ _ _ _)) (nomark _))))) (@pss_one _ _ _ (@ps_ret _ _ _ _ (pv 2))) (@pss_nil _)) (@pss_cons _ _ _ _ _ (@ps_set _ _ (i := 3) _ _ _ _ sc_number.nd rfl (by first | exact Or.inl rfl | exact Or.inr rfl) (@pe_op _ _ _ _ _ _ _ _ op_mod (@pe_op _ _ _ _ _ _ _ _ op_mulB (@pe_op _ _ _ _ _ _ _ _ op_addA (@pe_op _ _ _ _ _ _ _ _ op_addA (@pe_op _ _ _ _ _ _ _ _ op_mod (pv 2) (@pe_int _ _ _ _)) (@pe_op _ _ _ _ _ _ _ _ op_mulB (@pe_op _ _ _ _ _ _ _ _ op_mulB (@pe_int _ _ _ _) (pv 1)) (pv 1))) (@pe_int _ _ _ _)) (@pe_int _ _ _ _)) (@pe_int _ _ _ _)) (by rfl) (by first | exact .inl rfl | exact .inr rfl | assumption)) (@pss_cons _ _ _ _ _ (@ps_set _ _ (i := 4) _ _ _ _ sc_number.nd rfl (by first | exact Or.inl rfl | exact Or.inr rfl) (@pe_op _ _ _ _ _ _ _ _ op_mod (@pe_op _ _ _ _ _ _ _ _ op_mulB (pv 3) (@pe_op _ _ _ _ _ _ _ _ op_addA (@pe_op _ _ _ _ _ _ _ _ op_mod (pv 3) (@pe_int _ _ _ _)) (@pe_int _ _ _ _))) (@pe_int _ _ _ _)) (by rfl) (by first | exact .inl rfl | exact .inr rfl | assumption)) (@pss_cons _ _ _ _ _ (@ps_set _ _ (i := 5) _ _ _ _ sc_number.nd rfl (by first | exact Or.inl rfl | exact Or.inr rfl) (@pe_op _ _ _ _ _ _ _ _ op_mod (@pe_op _ _ _ _ _ _ _ _ op_mulB (@pe_op _ _ _ _ _ _ _ _ op_addA (pv 4) (@pe_op _ _ _ _ _ _ _ _ op_mulB (@pe_op _ _ _ _ _ _ _ _ op_mulB (@pe_int _ _ _ _) (pv 1)) (pv 1))) (@pe_op _ _ _ _ _ _ _ _ op_addA (@pe_op _ _ _ _ _ _ _ _ op_mod (pv 3) (@pe_int _ _ _ _)) (@pe_int _ _ _ _))) (@pe_int _ _ _ _)) (by rfl) (by first | exact .inl rfl | exact .inr rfl | assumption)) (@pss_cons _ _ _ _ _ (@ps_set _ _ (i := 6) _ _ _ _ sc_number.nd rfl (by first | exact Or.inl rfl | exact Or.inr rfl) (@pe_op _ _ _ _ _ _ _ _ op_addA (@pe_op _ _ _ _ _ _ _ _ op_mulB (@pe_op _ _ _ _ _ _ _ _ op_addA (@pe_op _ _ _ _ _ _ _ _ op_mulB (pv 3) (@pe_int _ _ _ _)) (pv 4)) (@pe_int _ _ _ _)) (pv 5)) (by rfl) (by first | exact .inl rfl | exact .inr rfl | assumption)) (@pss_cons _ _ _ _ _ (@ps_if _ _ _ _ _ _ _ _ (@pt_cmpR _ _ _ _ _ _ _ _ (op_eqA hr.units) (@pe_op _ _ _ _ _ _ _ _ op_mod (@pe_callO _ _ _ _ _ _ _ _ _ _ o_cell_at hr rfl (@pa_cons _ _ _ _ _ (pv 0) (@pa_cons _ _ _ _ _ (@pe_int _ _ _ _) (@pa_nil _) (by rfl)) (by rfl)) (by decide) (by rfl) (by rfl)) (@pe_int _ _ _ _)) (@pe_int _ _ _ _) (nomark _)) (@pss_one _ _ _ (@ps_ret _ _ _ _ (@pe_op _ _ _ _ _ _ _ _ op_addA (@pe_op _ _ _ _ _ _ _ _ op_mulB (pv 6) (@pe_op _ _ _ _ _ _ _ _ op_pow (@pe_int _ _ _ _) (@pe_int _ _ _ _))) (@pe_op _ _ _ _ _ _ _ _ op_mod (pv 2) (@pe_op _ _ _ _ _ _ _ _ op_pow (@pe_int _ _ _ _) (@pe_int _ _ _ _)))))) (@pss_nil _)) (@pss_one _ _ _ (@ps_ret _ _ _ _ (pv 6)))))))))), ?_⟩
    walk_at "go"
    refine ⟨a, ns, k', rfl, hS, h0, fun c => ?_⟩
    walk_at "go"
    refine ⟨a, ns, 0, rfl, hS, Int.le_refl 0, fun c0 => ?_⟩
    walk_at "go"
    refine i_d (fun e1 => ?_) (fun e1 => ?_)
    · walk_at "go"
      refine i_d (fun e2 => ?_) (fun e2 => ?_)
      · walk_at "go"
        exact q _ (by omega)
      · walk_at "go"
        refine ⟨a, ns, 0, rfl, hS, Int.le_refl 0, fun c1 => ?_⟩
        walk_at "go"
        have hone : ∀ z : Int, 0 ≤ z % 2147483629 := fun z => Int.emod_nonneg z (by decide)
        have htwo : ∀ z : Int, 0 ≤ z % 2147483587 := fun z => Int.emod_nonneg z (by decide)
        have hthr : ∀ z : Int, 0 ≤ z % 2147483543 := fun z => Int.emod_nonneg z (by decide)
        have h1 := hone ((c % 2147483647 + 7919 * k' * k' + 11) * 69621)
        generalize (c % 2147483647 + 7919 * k' * k' + 11) * 69621 % 2147483629 = one at h1 ⊢
        have h2 := htwo (one * (one % 65521 + 48271))
        generalize one * (one % 65521 + 48271) % 2147483587 = two at h2 ⊢
        have h3 := hthr ((two + 40692 * k' * k') * (one % 7919 + 39373))
        generalize (two + 40692 * k' * k') * (one % 7919 + 39373) % 2147483543 = thr at h3 ⊢
        refine i_d (fun e3 => ?_) (fun e3 => ?_)
        · walk_at "go"
          exact q _ (nn_b (nn_a h1 h2 h3))
        · walk_at "go"
          exact q _ (nn_a h1 h2 h3)
    · walk_at "go"
      refine ⟨a, ns, 0, rfl, hS, Int.le_refl 0, fun c1 => ?_⟩
      walk_at "go"
      have hone : ∀ z : Int, 0 ≤ z % 2147483629 := fun z => Int.emod_nonneg z (by decide)
      have htwo : ∀ z : Int, 0 ≤ z % 2147483587 := fun z => Int.emod_nonneg z (by decide)
      have hthr : ∀ z : Int, 0 ≤ z % 2147483543 := fun z => Int.emod_nonneg z (by decide)
      have h1 := hone ((c % 2147483647 + 7919 * k' * k' + 11) * 69621)
      generalize (c % 2147483647 + 7919 * k' * k' + 11) * 69621 % 2147483629 = one at h1 ⊢
      have h2 := htwo (one * (one % 65521 + 48271))
      generalize one * (one % 65521 + 48271) % 2147483587 = two at h2 ⊢
      have h3 := hthr ((two + 40692 * k' * k') * (one % 7919 + 39373))
      generalize (two + 40692 * k' * k') * (one % 7919 + 39373) % 2147483543 = thr at h3 ⊢
      refine i_d (fun e3 => ?_) (fun e3 => ?_)
      · walk_at "go"
        exact q _ (nn_b (nn_a h1 h2 h3))
      · walk_at "go"
        exact q _ (nn_a h1 h2 h3)
theorem ok_lowest (T : Bl mg) (d : Df K mg "_law_lowest" s_lowest ["_law_top", "_law_bottom"]  ) : Okf P w K mg base (k + 1) "_law_lowest" ["_law_top", "_law_bottom"] spLowest := by
  refine Okf.of d sc_lowest (fun vs H Q E h => ?_) (fun f cdv A outer s H vs Q E hr h => ?_)
  · obtain ⟨t, b, rfl, _⟩ := h
    rfl
  · obtain ⟨t, b, rfl, hb, hs1, hs2, q⟩ := h
    refine ⟨_, (@pss_cons _ _ _ _ _ (@ps_set _ _ (i := 2) _ _ _ _ sc_lowest.nd rfl (by first | exact Or.inl rfl | exact Or.inr rfl) (@pe_callB _ _ _ _ _ _ _ _ _ c_abs rfl T.z_abs bt_abs (@pa_cons _ _ _ _ _ (pv 0) (@pa_nil _) (by rfl)) (by decide) (by decide) (by rfl) (by rfl)) (by rfl) (by first | exact .inl rfl | exact .inr rfl | assumption)) (@pss_cons _ _ _ _ _ (@ps_set _ _ (i := 3) _ _ _ _ sc_lowest.nd rfl (by first | exact Or.inl rfl | exact Or.inr rfl) (pv 1) (by rfl) (by first | exact .inl rfl | exact .inr rfl | assumption)) (@pss_cons _ _ _ _ _ (@ps_while _ _ _ _ _ _ PassesOwn.never (@pt_cmpR _ _ _ _ _ _ _ _ (op_neA hr.units) (pv 3) (@pe_int _ _ _ _) (nomark _)) (@pss_one _ _ _ (@ps_par _ _ (i := 2) (j := 3) _ _ _ _ _ _ _ _ _ _ _ rfl sc_lowest.nd rfl rfl (by decide) rfl rfl (@pa_cons _ _ _ _ _ (pv 3) (@pa_cons _ _ _ _ _ (@pe_op _ _ _ _ _ _ _ _ op_mod (pv 2) (pv 3)) (@pa_nil _) (by rfl)) (by rfl)) rfl (by rfl)))) (@pss_one _ _ _ (@ps_ret _ _ _ _ (@pe_tup _ _ _ _ _ (@pa_cons _ _ _ _ _ (@pe_op _ _ _ _ _ _ _ _ op_fdivB (pv 0) (pv 2)) (@pa_cons _ _ _ _ _ (@pe_op _ _ _ _ _ _ _ _ op_fdivB (pv 1) (pv 2)) (@pa_nil _) (by rfl)) (by rfl)))))))), ?_⟩
    walk_at "go"
    refine while_by (fun σ H' => ∃ one other : Int, σ = [some (.int t), some (.int b), some (.int one), some (.int other)] ∧ H' = H ∧ 0 ≤ one ∧ 0 ≤ other ∧ Int.gcd one other = Int.gcd t b)
      (fun σ _ => match σ with | [_, _, _, some (.int z)] => z.toNat | _ => 0) ⟨_, _, rfl, rfl, by split <;> omega, by omega, ?_⟩ ?_ ?_
    · have e : ∀ z : Int, (if z < 0 then -z else z) = (z.natAbs : Int) := fun z => by split <;> omega
      rw [e]
      simp [Int.gcd]
    · rintro σ H' ⟨one, other, rfl, rfl, h1, h2, hg⟩
      walk_at "go"
      refine i_d (fun c => ?_) (fun c => ?_)
      · subst c
        have e1 : one = (Int.gcd t b : Int) := by rw [← hg, Int.gcd_zero_right]; omega
        have hb0 : b ≠ 0 := by omega
        have hgb : (Int.gcd t b : Int).natAbs ≤ b.natAbs := by
          have := Nat.le_of_dvd (by omega) (Int.gcd_dvd_natAbs_right t b)
          omega
        subst e1
        walk_at "go"
        have es : (Int.gcd t b : Int) = sg t b := by unfold sg; rw [if_neg (by omega)]
        rw [es]
        have hc : ∀ z, CDivB z (sg t b) := fun _ => ⟨sg_ne hb0, Sm.le (by rw [sg_natAbs]; omega) hs2⟩
        refine r_fdiv (hc _) ?_
        walk_at "go"
        refine r_fdiv (hc _) ?_
        walk_at "go"
        refine r_tupK fun p hp => ?_
        walk_at "go"
        exact q p hp
      · walk_at "go"
        refine ⟨⟨_, _, rfl, rfl, h2, Int.emod_nonneg _ (by omega), by rw [gcd_step (by omega)]; exact hg⟩, ?_⟩
        have := Int.emod_lt_of_pos one (show 0 < other by omega)
        show (one % other).toNat < other.toNat
        omega
    · intro σ H Q Q' hQ h
      obtain ⟨v, e1, h⟩ := h
      rcases h with ⟨e2, b', e3, q'⟩ | ⟨d, e, e2, e3, e4, e5, b', e6, q'⟩
      · exact ⟨v, e1, .inl ⟨e2, b', e3, hQ _ _ q'⟩⟩
      · exact ⟨v, e1, .inr ⟨d, e, e2, e3, e4, e5, b', e6, hQ _ _ q'⟩⟩
set_option maxHeartbeats 0 in
theorem ok_share (T : Bl mg) (d : Df K mg "_law_share" s_share ["_law_number_here"]  ) (o_lowest : Okf P w K mg base k "_law_lowest" ["_law_top", "_law_bottom"] spLowest) : Okf P w K mg base (k + 1) "_law_share" ["_law_number_here"] spShareW2 := by
  refine Okf.of d sc_share (fun vs H Q E h => ?_) (fun f cdv A outer s H vs Q E hr h => ?_)
  · obtain ⟨r, rfl, _⟩ := h
    rfl
  · obtain ⟨r, rfl, hr0, q⟩ := h
    refine ⟨_, (@pss_cons _ _ _ _ _ (@ps_set _ _ (i := 1) _ _ _ _ sc_share.nd rfl (by first | exact Or.inl rfl | exact Or.inr rfl) (@pe_op _ _ _ _ _ _ _ _ op_sub (@pe_op _ _ _ _ _ _ _ _ op_mod (pv 0) (@pe_int _ _ _ _)) (@pe_int _ _ _ _)) (by rfl) (by first | exact .inl rfl | exact .inr rfl | assumption)) (@pss_cons _ _ _ _ _ (@ps_set _ _ (i := 2) _ _ _ _ sc_share.nd rfl (by first | exact Or.inl rfl | exact Or.inr rfl) (@pe_op _ _ _ _ _ _ _ _ op_addA (@pe_int _ _ _ _) (@pe_op _ _ _ _ _ _ _ _ op_mod (@pe_op _ _ _ _ _ _ _ _ op_fdivB (pv 0) (@pe_int _ _ _ _)) (@pe_int _ _ _ _))) (by rfl) (by first | exact .inl rfl | exact .inr rfl | assumption)) (@pss_cons _ _ _ _ _ (@ps_if _ _ _ _ _ _ _ _ (@pt_cmpR _ _ _ _ _ _ _ _ (op_eqA hr.units) (@pe_op _ _ _ _ _ _ _ _ op_mod (@pe_op _ _ _ _ _ _ _ _ op_fdivB (pv 0) (@pe_int _ _ _ _)) (@pe_int _ _ _ _)) (@pe_int _ _ _ _) (nomark _)) (@pss_cons _ _ _ _ _ (@ps_set _ _ (i := 1) _ _ _ _ sc_share.nd rfl (by first | exact Or.inl rfl | exact Or.inr rfl) (@pe_op _ _ _ _ _ _ _ _ op_sub (@pe_op _ _ _ _ _ _ _ _ op_mod (@pe_op _ _ _ _ _ _ _ _ op_fdivB (pv 0) (@pe_int _ _ _ _)) (@pe_op _ _ _ _ _ _ _ _ op_addA (@pe_op _ _ _ _ _ _ _ _ op_mulB (@pe_int _ _ _ _) (@pe_op _ _ _ _ _ _ _ _ op_pow (@pe_int _ _ _ _) (@pe_int _ _ _ _))) (@pe_int _ _ _ _))) (@pe_op _ _ _ _ _ _ _ _ op_pow (@pe_int _ _ _ _) (@pe_int _ _ _ _))) (by rfl) (by first | exact .inl rfl | exact .inr rfl | assumption)) (@pss_one _ _ _ (@ps_set _ _ (i := 2) _ _ _ _ sc_share.nd rfl (by first | exact Or.inl rfl | exact Or.inr rfl) (@pe_ix _ _ _ _ _ _ _ ix_LT (@pe_lst _ _ _ _ (@pa_cons _ _ _ _ _ (@pe_int _ _ _ _) (@pa_cons _ _ _ _ _ (@pe_int _ _ _ _) (@pa_cons _ _ _ _ _ (@pe_int _ _ _ _) (@pa_cons _ _ _ _ _ (@pe_int _ _ _ _) (@pa_nil _) (by rfl)) (by rfl)) (by rfl)) (by rfl))) (@pe_op _ _ _ _ _ _ _ _ op_mod (@pe_op _ _ _ _ _ _ _ _ op_fdivB (pv 0) (@pe_int _ _ _ _)) (@pe_int _ _ _ _)) (fun _ _ => rfl)) (by rfl) (by first | exact .inl rfl | exact .inr rfl | assumption)))) (@pss_nil _)) (@pss_one _ _ _ (@ps_ret _ _ _ _ (@pe_callO _ _ _ _ _ _ _ _ _ _ o_lowest hr rfl (@pa_cons _ _ _ _ _ (pv 1) (@pa_cons _ _ _ _ _ (pv 2) (@pa_nil _) (by rfl)) (by rfl)) (by decide) (by rfl) (by rfl))))))), ?_⟩
    walk_at "go"
    have hf : ∀ {z j : Int}, 0 ≤ z → 0 < j → 0 ≤ z.fdiv j := fun h1 h2 => fdiv_nn h1 h2
    refine i_d (fun c => ?_) (fun c => ?_)
    · walk_at "go"
      refine r_pow30 ?_
      walk_at "go"
      refine r_pow30 ?_
      walk_at "go"
      have g1 : ∀ z : Int, 0 ≤ z % (2 * 1000000000000000000000000000000 + 1) ∧ z % (2 * 1000000000000000000000000000000 + 1) < 2 * 1000000000000000000000000000000 + 1 := fun z => by omega
      generalize hA : r.fdiv 7872 % (2 * 1000000000000000000000000000000 + 1) = A1
      have k1 : 0 ≤ A1 ∧ A1 < 2 * 1000000000000000000000000000000 + 1 := by rw [← hA]; exact g1 _
      refine r_lstK fun l1 gl => ?_
      walk_at "go"
      obtain ⟨b, eb, hb1, hb2, hb3⟩ : ∃ b : Int, atI [V.int 1, V.int 65537, V.int 99991, V.int 1000003] (r.fdiv 1968 % 4) = some (V.int b) ∧ 0 < b ∧ b ≤ 1000003 ∧ b.toNat ∣ D0 := by
        have : r.fdiv 1968 % 4 = 0 ∨ r.fdiv 1968 % 4 = 1 ∨ r.fdiv 1968 % 4 = 2 ∨ r.fdiv 1968 % 4 = 3 := by omega
        rcases this with e | e | e | e <;> rw [e]
        · exact ⟨1, rfl, by decide, by decide, by decide +kernel⟩
        · exact ⟨65537, rfl, by decide, by decide, by decide +kernel⟩
        · exact ⟨99991, rfl, by decide, by decide, by decide +kernel⟩
        · exact ⟨1000003, rfl, by decide, by decide, by decide +kernel⟩
      refine r_ixl upd_same eb ?_
      walk_at "go"
      refine ⟨_, _, rfl, by omega, (Sm.of (n := 102) (by omega) (by omega)).mono (by decide), (Sm.of (n := 102) (by omega) (by omega)).mono (by decide), fun p hp => ?_⟩
      walk_at "go"
      exact q p _ _ _ ((Same.new gl).trans (Same.new hp)) upd_same (by omega) (by omega) hb3 (by omega) (by omega)
    · walk_at "go"
      refine ⟨_, _, rfl, by omega, (Sm.of (n := 102) (by omega) (by omega)).mono (by decide), (Sm.of (n := 102) (by omega) (by omega)).mono (by decide), fun p hp => ?_⟩
      walk_at "go"
      exact q p _ _ _ (Same.new hp) upd_same (by omega) (by omega) (dvd12 (by omega) (by omega)) (by omega) (by omega)
set_option maxHeartbeats 0 in
theorem ok_bells (T : Bl mg) (d : Df K mg "_law_bells" s_bells ["_law_script", "_law_most"]  ) (o_number : Okf P w K mg base k "_law_number" ["_law_script", "_law_k"] (spNumW K)) : Okf P w K mg base (k + 1) "_law_bells" ["_law_script", "_law_most"] (spBells K) := by
  refine Okf.of d sc_bells (fun vs H Q E h => ?_) (fun f cdv A outer s H vs Q E hr h => ?_)
  · obtain ⟨a, ns, mo, rfl, _⟩ := h
    rfl
  · obtain ⟨a, ns, mo, rfl, hS, hm1, hm2, q⟩ := h
    refine ⟨_, (@pss_cons _ _ _ _ _ (@ps_set _ _ (i := 2) _ _ _ _ sc_bells.nd rfl (by first | exact Or.inl rfl | exact Or.inr rfl) (@pe_str _ _ _ _) (by rfl) (by first | exact .inl rfl | exact .inr rfl | assumption)) (@pss_cons _ _ _ _ _ (@ps_set _ _ (i := 3) _ _ _ _ sc_bells.nd rfl (by first | exact Or.inl rfl | exact Or.inr rfl) (@pe_callO _ _ _ _ _ _ _ _ _ _ o_number hr rfl (@pa_cons _ _ _ _ _ (pv 0) (@pa_cons _ _ _ _ _ (@pe_int _ _ _ _) (@pa_nil _) (by rfl)) (by rfl)) (by decide) (by rfl) (by rfl)) (by rfl) (by first | exact .inl rfl | exact .inr rfl | assumption)) (@pss_cons _ _ _ _ _ (@ps_set _ _ (i := 4) _ _ _ _ sc_bells.nd rfl (by first | exact Or.inl rfl | exact Or.inr rfl) (@pe_ix _ _ _ _ _ _ _ ix_LT (@pe_lst _ _ _ _ (@pa_cons _ _ _ _ _ (@pe_str _ _ _ _) (@pa_cons _ _ _ _ _ (@pe_str _ _ _ _) (@pa_cons _ _ _ _ _ (@pe_str _ _ _ _) (@pa_cons _ _ _ _ _ (@pe_str _ _ _ _) (@pa_nil _) (by rfl)) (by rfl)) (by rfl)) (by rfl))) (@pe_op _ _ _ _ _ _ _ _ op_mod (pv 3) (@pe_int _ _ _ _)) (fun _ _ => rfl)) (by rfl) (by first | exact .inl rfl | exact .inr rfl | assumption)) (@pss_cons _ _ _ _ _ (@ps_set _ _ (i := 5) _ _ _ _ sc_bells.nd rfl (by first | exact Or.inl rfl | exact Or.inr rfl) (@pe_ix _ _ _ _ _ _ _ ix_LT (@pe_lst _ _ _ _ (@pa_cons _ _ _ _ _ (@pe_str _ _ _ _) (@pa_cons _ _ _ _ _ (@pe_str _ _ _ _) (@pa_cons _ _ _ _ _ (@pe_str _ _ _ _) (@pa_cons _ _ _ _ _ (@pe_str _ _ _ _) (@pa_nil _) (by rfl)) (by rfl)) (by rfl)) (by rfl))) (@pe_op _ _ _ _ _ _ _ _ op_mod (@pe_op _ _ _ _ _ _ _ _ op_fdivB (pv 3) (@pe_int _ _ _ _)) (@pe_int _ _ _ _)) (fun _ _ => rfl)) (by rfl) (by first | exact .inl rfl | exact .inr rfl | assumption)) (@pss_cons _ _ _ _ _ (@ps_set _ _ (i := 6) _ _ _ _ sc_bells.nd rfl (by first | exact Or.inl rfl | exact Or.inr rfl) (@pe_op _ _ _ _ _ _ _ _ op_mod (@pe_op _ _ _ _ _ _ _ _ op_fdivB (pv 3) (@pe_int _ _ _ _)) (@pe_int _ _ _ _)) (by rfl) (by first | exact .inl rfl | exact .inr rfl | assumption)) (@pss_cons _ _ _ _ _ (@ps_set _ _ (i := 7) _ _ _ _ sc_bells.nd rfl (by first | exact Or.inl rfl | exact Or.inr rfl) (@pe_op _ _ _ _ _ _ _ _ op_mod (@pe_op _ _ _ _ _ _ _ _ op_fdivB (pv 3) (@pe_int _ _ _ _)) (@pe_int _ _ _ _)) (by rfl) (by first | exact .inl rfl | exact .inr rfl | assumption)) (@pss_cons _ _ _ _ _ (@ps_set _ _ (i := 8) _ _ _ _ sc_bells.nd rfl (by first | exact Or.inl rfl | exact Or.inr rfl) (@pe_lst _ _ _ _ (@pa_nil _)) (by rfl) (by first | exact .inl rfl | exact .inr rfl | assumption)) (@pss_cons _ _ _ _ _ (@ps_for _ _ _ _ _ _ _ _ PassesOwn.never rfl (@pi_range1 _ _ _ _ _ _ rfl T.z_range (@pa_cons _ _ _ _ _ (@pe_op _ _ _ _ _ _ _ _ op_addA (@pe_int _ _ _ _) (@pe_op _ _ _ _ _ _ _ _ op_mod (@pe_op _ _ _ _ _ _ _ _ op_fdivB (pv 3) (@pe_int _ _ _ _)) (@pe_op _ _ _ _ _ _ _ _ op_sub (pv 1) (@pe_int _ _ _ _)))) (@pa_nil _) (by rfl)) (by rfl)) (@pg_name _ _ (i := 9) _ sc_bells.nd rfl (by first | exact Or.inl rfl | exact Or.inr rfl) (by first | exact .inl rfl | exact .inr rfl | assumption)) (@pss_cons _ _ _ _ _ (@ps_set _ _ (i := 10) _ _ _ _ sc_bells.nd rfl (by first | exact Or.inl rfl | exact Or.inr rfl) (@pe_op _ _ _ _ _ _ _ _ op_addA (pv 4) (@pe_ix _ _ _ _ _ _ _ ix_LT (pv 2) (@pe_op _ _ _ _ _ _ _ _ op_mod (@pe_op _ _ _ _ _ _ _ _ op_addA (pv 6) (@pe_op _ _ _ _ _ _ _ _ op_fdivB (pv 9) (@pe_int _ _ _ _))) (@pe_int _ _ _ _)) (fun _ _ => rfl))) (by rfl) (by first | exact .inl rfl | exact .inr rfl | assumption)) (@pss_one _ _ _ (@ps_expr _ _ _ _ (@pe_bm _ _ _ _ _ _ _ _ _ _ _ _ PySem.F.plainAttrs_list PySem.F.slot_list_append PySem.F.type_list_append mt_append (pv 8) (@pa_cons _ _ _ _ _ (@pe_op _ _ _ _ _ _ _ _ op_addA (@pe_op _ _ _ _ _ _ _ _ op_addA (pv 10) (@pe_ix _ _ _ _ _ _ _ ix_LT (pv 2) (@pe_op _ _ _ _ _ _ _ _ op_mod (@pe_op _ _ _ _ _ _ _ _ op_addA (pv 7) (pv 9)) (@pe_int _ _ _ _)) (fun _ _ => rfl))) (pv 5)) (@pa_nil _) (by rfl)) (by rfl) (by rfl) (by rfl) (by rfl) (by rfl)) (by rfl)))) (by intro _; rfl)) (@pss_one _ _ _ (@ps_ret _ _ _ _ (pv 8))))))))))), ?_⟩
    have h26 : abc.length ≤ 100000 := by rw [abc_len]; decide
    walk_at "go"
    refine ⟨a, ns, 1, rfl, hS, by decide, by decide, fun r hr => ?_⟩
    have hf : ∀ {z j : Int}, 0 ≤ z → 0 < j → 0 ≤ z.fdiv j := fun h1 h2 => fdiv_nn h1 h2
    walk_at "go"
    refine r_lstK fun l1 g1 => ?_
    walk_at "go"
    have d1 : 0 ≤ r % 4 ∧ r % 4 < 4 := by omega
    obtain ⟨i, hi, ei⟩ : ∃ i : Nat, i < 4 ∧ r % 4 = i := ⟨(r % 4).toNat, by omega, by omega⟩
    rw [ei]
    have at4 : ∀ i : Nat, i < 4 → atI [V.str (Str.ofString ""), V.str (Str.ofString "ab"), V.str (Str.ofString "abc.d"), V.str (Str.ofString "x.y.z")] (i : Int) = some (V.str (bef i)) := fun i hi => by
      have : i = 0 ∨ i = 1 ∨ i = 2 ∨ i = 3 := by omega
      rcases this with rfl | rfl | rfl | rfl <;> rfl
    have at5 : ∀ i : Nat, i < 4 → atI [V.str (Str.ofString ""), V.str (Str.ofString "q"), V.str (Str.ofString ".r"), V.str (Str.ofString "qqqq")] (i : Int) = some (V.str (beh i)) := fun i hi => by
      have : i = 0 ∨ i = 1 ∨ i = 2 ∨ i = 3 := by omega
      rcases this with rfl | rfl | rfl | rfl <;> rfl
    refine r_ixl upd_same (at4 i hi) ?_
    walk_at "go"
    refine r_lstK fun l2 g2 => ?_
    walk_at "go"
    obtain ⟨j, hj, ej⟩ : ∃ j : Nat, j < 4 ∧ r.fdiv 4 % 4 = j := ⟨(r.fdiv 4 % 4).toNat, by omega, by omega⟩
    rw [ej]
    refine r_ixl upd_same (at5 j hj) ?_
    walk_at "go"
    obtain ⟨o, ho, eo⟩ : ∃ j : Nat, j < 26 ∧ r.fdiv 16 % 26 = j := ⟨(r.fdiv 16 % 26).toNat, by omega, by omega⟩
    obtain ⟨e, he, ee⟩ : ∃ j : Nat, j < 26 ∧ r.fdiv 416 % 26 = j := ⟨(r.fdiv 416 % 26).toNat, by omega, by omega⟩
    rw [eo, ee]
    refine r_lstK fun l3 g3 => ?_
    walk_at "go"
    have hn : 0 ≤ r.fdiv 10816 % (mo - 7) ∧ r.fdiv 10816 % (mo - 7) < mo - 7 := ⟨Int.emod_nonneg _ (by omega), Int.emod_lt_of_pos _ (by omega)⟩
    generalize r.fdiv 10816 % (mo - 7) = m at hn ⊢
    refine r_rng1K (by omega) (by omega) ?_
    have lb : (bef i).length ≤ 5 := by
      have : i = 0 ∨ i = 1 ∨ i = 2 ∨ i = 3 := by omega
      rcases this with rfl | rfl | rfl | rfl <;> decide +kernel
    have lh : (beh j).length ≤ 5 := by
      have : j = 0 ∨ j = 1 ∨ j = 2 ∨ j = 3 := by omega
      rcases this with rfl | rfl | rfl | rfl <;> decide +kernel
    have s3 := ((Same.new (H := H) (o := .lst [V.str (Str.ofString ""), V.str (Str.ofString "ab"), V.str (Str.ofString "abc.d"), V.str (Str.ofString "x.y.z")]) g1).trans (Same.new (o := .lst [V.str (Str.ofString ""), V.str (Str.ofString "q"), V.str (Str.ofString ".r"), V.str (Str.ofString "qqqq")]) g2))
    have f3 := s3.free g3
    generalize upd (upd H l1 (.lst [V.str (Str.ofString ""), V.str (Str.ofString "ab"), V.str (Str.ofString "abc.d"), V.str (Str.ofString "x.y.z")])) l2 (.lst [V.str (Str.ofString ""), V.str (Str.ofString "q"), V.str (Str.ofString ".r"), V.str (Str.ofString "qqqq")]) = H3 at s3 g3 ⊢
    refine r_forR (n := (8 + m).toNat) (fun x σ G => ∃ o1 o2, σ = [some (.ref a), some (.int mo), some (.str abc), some (.int r), some (.str (bef i)), some (.str (beh j)), some (.int o), some (.int e), some (.ref l3), o1, o2] ∧ Kp l3 H3 G ∧ G l3 = some (.lst ((nmsB i j o e x).map V.str))) ⟨_, _, rfl, Kp.new g3, upd_same⟩ ?_ ?_
    · rintro x σ G hx ⟨o1, o2, rfl, kG, hG⟩
      walk_at "go"
      have e1 : ((o : Int) + (0 + (x : Int)).fdiv 26) % 26 = (((o + x / 26) % 26 : Nat) : Int) := by
        rw [Int.zero_add, fdiv_nat]
        omega
      rw [e1]
      refine r_ixS h26 (abc_at _ (Nat.mod_lt _ (by decide))) ?_
      have L1 : ∀ c : Nat, (⟨#[c]⟩ : Str).length = 1 := fun c => rfl
      walk_at "go"
      refine r_addS (by rw [L1]; omega) ?_
      walk_at "go"
      have e2 : ((e : Int) + (0 + (x : Int))) % 26 = (((e + x) % 26 : Nat) : Int) := by omega
      rw [e2]
      refine r_ixS h26 (abc_at _ (Nat.mod_lt _ (by decide))) ?_
      walk_at "go"
      refine r_addS (by rw [len_plus, L1, L1]; omega) ?_
      walk_at "go"
      refine r_addS (by rw [len_plus, len_plus, L1, L1]; omega) ?_
      walk_at "go"
      refine r_app hG (by rw [List.length_map, nmsB_len]; omega) ?_
      walk_at "go"
      refine ⟨_, _, rfl, kG.trans Kp.upd, ?_⟩
      rw [upd_same, nmsB_snoc, List.map_append]
      rfl
    · rintro σ G ⟨o1, o2, rfl, kG, hG⟩
      walk_at "go"
      exact q l3 G i j o e _ f3 (kG.sm s3 f3) hi hj (by omega) (by omega) hG
set_option maxHeartbeats 0 in
theorem ok_wish (T : Bl mg) (d : Df K mg "_law_wish" s_wish ["_law_number_here", "_law_bells_here"]  ) (o_share : Okf P w K mg base k "_law_share" ["_law_number_here"] spShareW2) : Okf P w K mg base (k + 1) "_law_wish" ["_law_number_here", "_law_bells_here"] (spWish2 K) := by
  refine Okf.of d sc_wish (fun vs H Q E h => ?_) (fun f cdv A outer s H vs Q E hr h => ?_)
  · obtain ⟨n, l, U, rfl, _⟩ := h
    rfl
  · obtain ⟨n, l, U, rfl, hn0, hl, hl8, hl100, nd, hU, q⟩ := h
    refine ⟨_, (@pss_cons _ _ _ _ _ (@ps_set _ _ (i := 2) _ _ _ _ sc_wish.nd rfl (by first | exact Or.inl rfl | exact Or.inr rfl) (@pe_op _ _ _ _ _ _ _ _ op_mod (pv 0) (@pe_int _ _ _ _)) (by rfl) (by first | exact .inl rfl | exact .inr rfl | assumption)) (@pss_cons _ _ _ _ _ (@ps_set _ _ (i := 3) _ _ _ _ sc_wish.nd rfl (by first | exact Or.inl rfl | exact Or.inr rfl) (@pe_callB _ _ _ _ _ _ _ _ _ c_len rfl T.z_len bt_len (@pa_cons _ _ _ _ _ (pv 1) (@pa_nil _) (by rfl)) (by decide) (by decide) (by rfl) (by rfl)) (by rfl) (by first | exact .inl rfl | exact .inr rfl | assumption)) (@pss_cons _ _ _ _ _ (@ps_set _ _ (i := 4) _ _ _ _ sc_wish.nd rfl (by first | exact Or.inl rfl | exact Or.inr rfl) (@pe_op _ _ _ _ _ _ _ _ op_mod (@pe_op _ _ _ _ _ _ _ _ op_fdivB (pv 0) (@pe_int _ _ _ _)) (pv 3)) (by rfl) (by first | exact .inl rfl | exact .inr rfl | assumption)) (@pss_cons _ _ _ _ _ (@ps_set _ _ (i := 0) _ _ _ _ sc_wish.nd rfl (by first | exact Or.inl rfl | exact Or.inr rfl) (@pe_op _ _ _ _ _ _ _ _ op_fdivB (@pe_op _ _ _ _ _ _ _ _ op_fdivB (pv 0) (@pe_int _ _ _ _)) (pv 3)) (by rfl) (by first | exact .inl rfl | exact .inr rfl | assumption)) (@pss_cons _ _ _ _ _ (@ps_set _ _ (i := 5) _ _ _ _ sc_wish.nd rfl (by first | exact Or.inl rfl | exact Or.inr rfl) (@pe_op _ _ _ _ _ _ _ _ op_mod (@pe_op _ _ _ _ _ _ _ _ op_addA (pv 4) (@pe_ix _ _ _ _ _ _ _ ix_LT (@pe_lst _ _ _ _ (@pa_cons _ _ _ _ _ (@pe_int _ _ _ _) (@pa_cons _ _ _ _ _ (@pe_op _ _ _ _ _ _ _ _ op_sub (pv 3) (@pe_int _ _ _ _)) (@pa_cons _ _ _ _ _ (@pe_op _ _ _ _ _ _ _ _ op_addA (@pe_int _ _ _ _) (@pe_op _ _ _ _ _ _ _ _ op_mod (@pe_op _ _ _ _ _ _ _ _ op_fdivB (pv 0) (@pe_int _ _ _ _)) (@pe_op _ _ _ _ _ _ _ _ op_sub (pv 3) (@pe_int _ _ _ _)))) (@pa_nil _) (by rfl)) (by rfl)) (by rfl))) (@pe_op _ _ _ _ _ _ _ _ op_mod (pv 0) (@pe_int _ _ _ _)) (fun _ _ => rfl))) (pv 3)) (by rfl) (by first | exact .inl rfl | exact .inr rfl | assumption)) (@pss_cons _ _ _ _ _ (@ps_set _ _ (i := 6) _ _ _ _ sc_wish.nd rfl (by first | exact Or.inl rfl | exact Or.inr rfl) (@pe_callO _ _ _ _ _ _ _ _ _ _ o_share hr rfl (@pa_cons _ _ _ _ _ (@pe_op _ _ _ _ _ _ _ _ op_fdivB (@pe_op _ _ _ _ _ _ _ _ op_fdivB (pv 0) (@pe_int _ _ _ _)) (@pe_op _ _ _ _ _ _ _ _ op_sub (pv 3) (@pe_int _ _ _ _))) (@pa_nil _) (by rfl)) (by decide) (by rfl) (by rfl)) (by rfl) (by first | exact .inl rfl | exact .inr rfl | assumption)) (@pss_cons _ _ _ _ _ (@ps_if _ _ _ _ _ _ _ _ (@pt_cmpR _ _ _ _ _ _ _ _ (op_eqA hr.units) (pv 2) (@pe_int _ _ _ _) (nomark _)) (@pss_one _ _ _ (@ps_ret _ _ _ _ (@pe_tup _ _ _ _ _ (@pa_cons _ _ _ _ _ (@pe_str _ _ _ _) (@pa_cons _ _ _ _ _ (@pe_ix _ _ _ _ _ _ _ ix_LT (pv 1) (pv 4) (fun _ _ => rfl)) (@pa_cons _ _ _ _ _ (@pe_ix _ _ _ _ _ _ _ ix_LT (pv 1) (pv 5) (fun _ _ => rfl)) (@pa_cons _ _ _ _ _ (pv 6) (@pa_nil _) (by rfl)) (by rfl)) (by rfl)) (by rfl))))) (@pss_nil _)) (@pss_cons _ _ _ _ _ (@ps_if _ _ _ _ _ _ _ _ (@pt_cmpR _ _ _ _ _ _ _ _ (op_eqA hr.units) (pv 2) (@pe_int _ _ _ _) (nomark _)) (@pss_one _ _ _ (@ps_ret _ _ _ _ (@pe_tup _ _ _ _ _ (@pa_cons _ _ _ _ _ (@pe_str _ _ _ _) (@pa_cons _ _ _ _ _ (@pe_ix _ _ _ _ _ _ _ ix_LT (pv 1) (pv 4) (fun _ _ => rfl)) (@pa_cons _ _ _ _ _ (@pe_ix _ _ _ _ _ _ _ ix_LT (pv 1) (pv 5) (fun _ _ => rfl)) (@pa_cons _ _ _ _ _ (pv 6) (@pa_nil _) (by rfl)) (by rfl)) (by rfl)) (by rfl))))) (@pss_nil _)) (@pss_cons _ _ _ _ _ (@ps_if _ _ _ _ _ _ _ _ (@pt_cmpR _ _ _ _ _ _ _ _ (op_eqA hr.units) (pv 2) (@pe_int _ _ _ _) (nomark _)) (@pss_one _ _ _ (@ps_ret _ _ _ _ (@pe_tup _ _ _ _ _ (@pa_cons _ _ _ _ _ (@pe_str _ _ _ _) (@pa_cons _ _ _ _ _ (@pe_ix _ _ _ _ _ _ _ ix_LT (pv 1) (pv 4) (fun _ _ => rfl)) (@pa_cons _ _ _ _ _ (@pe_ix _ _ _ _ _ _ _ ix_LT (pv 1) (pv 5) (fun _ _ => rfl)) (@pa_nil _) (by rfl)) (by rfl)) (by rfl))))) (@pss_nil _)) (@pss_one _ _ _ (@ps_ret _ _ _ _ (@pe_tup _ _ _ _ _ (@pa_cons _ _ _ _ _ (@pe_str _ _ _ _) (@pa_cons _ _ _ _ _ (@pe_ix _ _ _ _ _ _ _ ix_LT (pv 1) (pv 4) (fun _ _ => rfl)) (@pa_cons _ _ _ _ _ (@pe_tup _ _ _ _ _ (@pa_cons _ _ _ _ _ (@pe_callB _ _ _ _ _ _ _ _ _ c_abs rfl T.z_abs bt_abs (@pa_cons _ _ _ _ _ (@pe_ix _ _ _ _ _ _ _ ix_LT (pv 6) (@pe_int _ _ _ _) (fun _ _ => rfl)) (@pa_nil _) (by rfl)) (by decide) (by decide) (by rfl) (by rfl)) (@pa_cons _ _ _ _ _ (@pe_ix _ _ _ _ _ _ _ ix_LT (pv 6) (@pe_int _ _ _ _) (fun _ _ => rfl)) (@pa_nil _) (by rfl)) (by rfl))) (@pa_nil _) (by rfl)) (by rfl)) (by rfl)))))))))))))), ?_⟩
    have hf : ∀ {z j : Int}, 0 ≤ z → 0 < j → 0 ≤ z.fdiv j := fun h1 h2 => fdiv_nn h1 h2
    have f1 := hf (z := n) (j := 4) hn0 (by decide)
    walk_at "go"
    rw [List.length_map]
    obtain ⟨m, em⟩ : ∃ m : Nat, m = U.length := ⟨_, rfl⟩
    rw [← em] at hl8 hl100
    rw [← em]
    have hm0 : (0 : Int) < (m : Int) := by omega
    have i1 := Int.emod_nonneg (n.fdiv 4) (show (m : Int) ≠ 0 by omega)
    have i2 := Int.emod_lt_of_pos (n.fdiv 4) hm0
    generalize hi : n.fdiv 4 % (m : Int) = i at i1 i2
    have f2 := hf (z := n.fdiv 4) (j := (m : Int)) f1 hm0
    generalize hn2 : (n.fdiv 4).fdiv (m : Int) = n2 at f2
    walk_at "go"
    refine r_lstK fun l1 g1 => ?_
    walk_at "go"
    rw [hn2]
    have j1 := Int.emod_nonneg (n2.fdiv 3) (show (m : Int) - 1 ≠ 0 by omega)
    have j2 := Int.emod_lt_of_pos (n2.fdiv 3) (show 0 < (m : Int) - 1 by omega)
    generalize n2.fdiv 3 % ((m : Int) - 1) = j at j1 j2 ⊢
    obtain ⟨d, hd1, hd2, hd3⟩ : ∃ d : Int, 1 ≤ d ∧ d ≤ (m : Int) - 1 ∧ atI [V.int 1, V.int ((m : Int) - 1), V.int (1 + j)] (n2 % 3) = some (V.int d) := by
      have : n2 % 3 = 0 ∨ n2 % 3 = 1 ∨ n2 % 3 = 2 := by omega
      rcases this with e | e | e <;> rw [e]
      · exact ⟨1, by omega, by omega, rfl⟩
      · exact ⟨_, by omega, by omega, rfl⟩
      · exact ⟨_, by omega, by omega, rfl⟩
    refine r_ixl upd_same hd3 ?_
    walk_at "go"
    rw [hi]
    have o1 := Int.emod_nonneg (i + d) (show (m : Int) ≠ 0 by omega)
    have o2 := Int.emod_lt_of_pos (i + d) hm0
    have o3 : (i + d) % (m : Int) ≠ i := fun e => by
      have := Int.emod_add_mul_ediv (i + d) (m : Int)
      have hq : ((i + d) / (m : Int)) < 2 := Int.ediv_lt_of_lt_mul hm0 (by omega)
      have hq0 : 0 ≤ ((i + d) / (m : Int)) := Int.ediv_nonneg (by omega) (by omega)
      have h01 : ((i + d) / (m : Int)) = 0 ∨ ((i + d) / (m : Int)) = 1 := by omega
      rcases h01 with z | z <;> rw [z] at this <;> omega
    generalize (i + d) % (m : Int) = o at o1 o2 o3 ⊢
    obtain ⟨a, rfl⟩ : ∃ a : Nat, i = a := ⟨i.toNat, by omega⟩
    obtain ⟨c, rfl⟩ : ∃ c : Nat, o = c := ⟨o.toNat, by omega⟩
    have ha : a < U.length := by omega
    have hc : c < U.length := by omega
    have ea : atI (U.map V.str) (a : Int) = some (V.str U[a]) := atI_nat (by rw [List.getElem?_map, List.getElem?_eq_getElem ha]; rfl)
    have ec : atI (U.map V.str) (c : Int) = some (V.str U[c]) := atI_nat (by rw [List.getElem?_map, List.getElem?_eq_getElem hc]; rfl)
    have m1 := List.getElem_mem ha
    have m2 := List.getElem_mem hc
    have hne : U[a] ≠ U[c] := fun e => o3 (by rw [nd_at nd ha hc e])
    generalize U[a] = s1 at ea m1 hne
    generalize U[c] = s2 at ec m2 hne
    have f3 := hf (z := n2) (j := 3) f2 (by decide)
    have f4 := hf (z := n2.fdiv 3) (j := (m : Int) - 1) f3 (by omega)
    refine ⟨_, rfl, f4, fun p t b H2 sH2 hp2 hb1 hb2 hbd ht1 ht2 => ?_⟩
    have sp := (Same.new (H := H) (o := .lst [V.int 1, V.int ((m : Int) - 1), V.int (1 + j)]) g1).trans sH2
    have hl2 := sp _ _ hl
    have SR : SmR (Rat.divInt t b) := smr_low hb1 hb2 ht1 ht2
    walk_at "go"
    refine i_d (fun c0 => ?_) (fun c0 => ?_)
    · walk_at "go"
      refine r_ixl hl2 ea ?_
      walk_at "go"
      refine r_ixl hl2 ec ?_
      walk_at "go"
      refine r_tupK fun pw gw => ?_
      walk_at "go"
      exact q (.ref pw) _ (.after s1 s2 (Rat.divInt t b)) (sp.trans (Same.new gw)) ⟨pw, _, rfl, upd_same, FrQ.low (by omega) (upd_old gw hp2)⟩ ⟨hU _ m1, hU _ m2, hne, SR⟩ ⟨m1, m2⟩ ⟨t, b, hb1, hbd, ht1, ht2, rfl⟩
    · walk_at "go"
      refine i_d (fun c1 => ?_) (fun c1 => ?_)
      · walk_at "go"
        refine r_ixl hl2 ea ?_
        walk_at "go"
        refine r_ixl hl2 ec ?_
        walk_at "go"
        refine r_tupK fun pw gw => ?_
        walk_at "go"
        exact q (.ref pw) _ (.within s1 s2 (Rat.divInt t b)) (sp.trans (Same.new gw)) ⟨pw, _, rfl, upd_same, FrQ.low (by omega) (upd_old gw hp2)⟩ ⟨hU _ m1, hU _ m2, hne, SR⟩ ⟨m1, m2⟩ ⟨t, b, hb1, hbd, ht1, ht2, rfl⟩
      · walk_at "go"
        refine i_d (fun c2 => ?_) (fun c2 => ?_)
        · walk_at "go"
          refine r_ixl hl2 ea ?_
          walk_at "go"
          refine r_ixl hl2 ec ?_
          walk_at "go"
          refine r_tupK fun pw gw => ?_
          walk_at "go"
          exact q (.ref pw) _ (.wit s1 s2) (sp.trans (Same.new gw)) ⟨pw, rfl, upd_same⟩ ⟨hU _ m1, hU _ m2, hne⟩ ⟨m1, m2⟩ trivial
        · walk_at "go"
          refine r_ixl hl2 ea ?_
          walk_at "go"
          refine r_tupK fun pa ga => ?_
          walk_at "go"
          refine r_tupK fun pw gw => ?_
          walk_at "go"
          have eA : (if lowT t b < 0 then -lowT t b else lowT t b) = lowT (if t < 0 then -t else t) b ∧ lowB t b = lowB (if t < 0 then -t else t) b := low_abs (by omega)
          have hb' : b ≠ 0 := by omega
          have ht' : 0 ≤ (if t < 0 then -t else t) ∧ (if t < 0 then -t else t) ≤ 10 ^ 30 := by split <;> omega
          generalize (if t < 0 then -t else t) = t' at eA ht'
          refine q (.ref pw) _ (.frm s1 (Rat.divInt t' b)) ((sp.trans (Same.new ga)).trans (Same.new gw)) ⟨pw, _, rfl, upd_same, pa, rfl, ?_⟩ ⟨hU _ m1, low_nn ht'.1 hb1, smr_low hb1 hb2 (by omega) ht'.2⟩ m1 ⟨t', b, hb1, hbd, by omega, ht'.2, rfl⟩
          rw [(low_rat (t := t') hb').1, (low_rat (t := t') hb').2, ← eA.1, ← eA.2]
          exact upd_old gw upd_same
set_option maxHeartbeats 0 in
theorem ok_steps (T : Bl mg) (d : Df K mg "_law_steps" s_steps ["_law_wishes"]  ) : Okf P w K mg base (k + 1) "_law_steps" ["_law_wishes"] spLSteps := by
  refine Okf.of d sc_steps (fun vs H Q E h => ?_) (fun f cdv A outer s H vs Q E hr h => ?_)
  · obtain ⟨l, ws, rfl, _⟩ := h
    rfl
  · obtain ⟨l, ws, rfl, ⟨vs', hl, pvs⟩, hlen, q⟩ := h
    refine ⟨_, (@pss_cons _ _ _ _ _ (@ps_set _ _ (i := 1) _ _ _ _ sc_steps.nd rfl (by first | exact Or.inl rfl | exact Or.inr rfl) (@pe_lst _ _ _ _ (@pa_nil _)) (by rfl) (by first | exact .inl rfl | exact .inr rfl | assumption)) (@pss_cons _ _ _ _ _ (@ps_for _ _ _ _ _ _ _ _ PassesOwn.never rfl (@pi_enum _ _ _ _ _ _ _ _ rfl T.z_enumerate (@pa_cons _ _ _ _ _ (pv 0) (@pa_nil _) (by rfl)) (by rfl)) (@pg_tup _ _ _ _ _ (n := 2) rfl (@pgs_cons _ _ _ _ _ (@pg_name _ _ (i := 2) _ sc_steps.nd rfl (by first | exact Or.inl rfl | exact Or.inr rfl) (by first | exact .inl rfl | exact .inr rfl | assumption)) (@pgs_cons _ _ _ _ _ (@pg_name _ _ (i := 3) _ sc_steps.nd rfl (by first | exact Or.inl rfl | exact Or.inr rfl) (by first | exact .inl rfl | exact .inr rfl | assumption)) (@pgs_nil _) (by rfl)) (by rfl)) (by rfl) (by rfl)) (@pss_cons _ _ _ _ _ (@ps_if _ _ _ _ _ _ _ _ (@pt_cmpR _ _ _ _ _ _ _ _ (op_eqA hr.units) (@pe_ix _ _ _ _ _ _ _ ix_LT (pv 3) (@pe_int _ _ _ _) (fun _ _ => rfl)) (@pe_str _ _ _ _) (nomark _)) (@pss_one _ _ _ (@ps_expr _ _ _ _ (@pe_bm _ _ _ _ _ _ _ _ _ _ _ _ PySem.F.plainAttrs_list PySem.F.slot_list_append PySem.F.type_list_append mt_append (pv 1) (@pa_cons _ _ _ _ _ (@pe_tup _ _ _ _ _ (@pa_cons _ _ _ _ _ (@pe_ix _ _ _ _ _ _ _ ix_LT (pv 3) (@pe_int _ _ _ _) (fun _ _ => rfl)) (@pa_cons _ _ _ _ _ (@pe_ix _ _ _ _ _ _ _ ix_LT (pv 3) (@pe_int _ _ _ _) (fun _ _ => rfl)) (@pa_cons _ _ _ _ _ (@pe_ix _ _ _ _ _ _ _ ix_LT (pv 3) (@pe_int _ _ _ _) (fun _ _ => rfl)) (@pa_cons _ _ _ _ _ (pv 2) (@pa_nil _) (by rfl)) (by rfl)) (by rfl)) (by rfl))) (@pa_nil _) (by rfl)) (by rfl) (by rfl) (by rfl) (by rfl) (by rfl)) (by rfl))) (@pss_nil _)) (@pss_cons _ _ _ _ _ (@ps_if _ _ _ _ _ _ _ _ (@pt_cmpR _ _ _ _ _ _ _ _ (op_eqA hr.units) (@pe_ix _ _ _ _ _ _ _ ix_LT (pv 3) (@pe_int _ _ _ _) (fun _ _ => rfl)) (@pe_str _ _ _ _) (nomark _)) (@pss_one _ _ _ (@ps_expr _ _ _ _ (@pe_bm _ _ _ _ _ _ _ _ _ _ _ _ PySem.F.plainAttrs_list PySem.F.slot_list_append PySem.F.type_list_append mt_append (pv 1) (@pa_cons _ _ _ _ _ (@pe_tup _ _ _ _ _ (@pa_cons _ _ _ _ _ (@pe_ix _ _ _ _ _ _ _ ix_LT (pv 3) (@pe_int _ _ _ _) (fun _ _ => rfl)) (@pa_cons _ _ _ _ _ (@pe_ix _ _ _ _ _ _ _ ix_LT (pv 3) (@pe_int _ _ _ _) (fun _ _ => rfl)) (@pa_cons _ _ _ _ _ (@pe_tup _ _ _ _ _ (@pa_cons _ _ _ _ _ (@pe_op _ _ _ _ _ _ _ _ op_sub (@pe_int _ _ _ _) (@pe_ix _ _ _ _ _ _ _ ix_LT (@pe_ix _ _ _ _ _ _ _ ix_LT (pv 3) (@pe_int _ _ _ _) (fun _ _ => rfl)) (@pe_int _ _ _ _) (fun _ _ => rfl))) (@pa_cons _ _ _ _ _ (@pe_ix _ _ _ _ _ _ _ ix_LT (@pe_ix _ _ _ _ _ _ _ ix_LT (pv 3) (@pe_int _ _ _ _) (fun _ _ => rfl)) (@pe_int _ _ _ _) (fun _ _ => rfl)) (@pa_nil _) (by rfl)) (by rfl))) (@pa_cons _ _ _ _ _ (pv 2) (@pa_nil _) (by rfl)) (by rfl)) (by rfl)) (by rfl))) (@pa_nil _) (by rfl)) (by rfl) (by rfl) (by rfl) (by rfl) (by rfl)) (by rfl))) (@pss_nil _)) (@pss_one _ _ _ (@ps_if _ _ _ _ _ _ _ _ (@pt_cmpR _ _ _ _ _ _ _ _ (op_eqA hr.units) (@pe_ix _ _ _ _ _ _ _ ix_LT (pv 3) (@pe_int _ _ _ _) (fun _ _ => rfl)) (@pe_str _ _ _ _) (nomark _)) (@pss_one _ _ _ (@ps_set _ _ (i := 1) _ _ _ _ sc_steps.nd rfl (by first | exact Or.inl rfl | exact Or.inr rfl) (@pe_op _ _ _ _ _ _ _ _ op_addA (pv 1) (@pe_lst _ _ _ _ (@pa_cons _ _ _ _ _ (@pe_tup _ _ _ _ _ (@pa_cons _ _ _ _ _ (@pe_ix _ _ _ _ _ _ _ ix_LT (pv 3) (@pe_int _ _ _ _) (fun _ _ => rfl)) (@pa_cons _ _ _ _ _ (@pe_ix _ _ _ _ _ _ _ ix_LT (pv 3) (@pe_int _ _ _ _) (fun _ _ => rfl)) (@pa_cons _ _ _ _ _ (@pe_tup _ _ _ _ _ (@pa_cons _ _ _ _ _ (@pe_int _ _ _ _) (@pa_cons _ _ _ _ _ (@pe_int _ _ _ _) (@pa_nil _) (by rfl)) (by rfl))) (@pa_cons _ _ _ _ _ (pv 2) (@pa_nil _) (by rfl)) (by rfl)) (by rfl)) (by rfl))) (@pa_cons _ _ _ _ _ (@pe_tup _ _ _ _ _ (@pa_cons _ _ _ _ _ (@pe_ix _ _ _ _ _ _ _ ix_LT (pv 3) (@pe_int _ _ _ _) (fun _ _ => rfl)) (@pa_cons _ _ _ _ _ (@pe_ix _ _ _ _ _ _ _ ix_LT (pv 3) (@pe_int _ _ _ _) (fun _ _ => rfl)) (@pa_cons _ _ _ _ _ (@pe_tup _ _ _ _ _ (@pa_cons _ _ _ _ _ (@pe_int _ _ _ _) (@pa_cons _ _ _ _ _ (@pe_int _ _ _ _) (@pa_nil _) (by rfl)) (by rfl))) (@pa_cons _ _ _ _ _ (pv 2) (@pa_nil _) (by rfl)) (by rfl)) (by rfl)) (by rfl))) (@pa_nil _) (by rfl)) (by rfl)))) (by rfl) (by first | exact .inl rfl | exact .inr rfl | assumption))) (@pss_nil _))))) (by intro _; rfl)) (@pss_one _ _ _ (@ps_ret _ _ _ _ (pv 1))))), ?_⟩
    walk_at "go"
    refine r_lstK fun ls gs => ?_
    walk_at "go"
    have hvl : vs'.length = ws.length := Paired.length pvs
    refine e_K (upd_old gs hl) ?_
    refine r_forE (xs := vs') (fun i σ G => ∃ lf o1 o2, σ = [some (.ref l), some (.ref lf), o1, o2] ∧ H lf = none ∧ Same H G ∧ LQ StepQ G lf (stepsOf (ws.take i))) ⟨ls, _, _, rfl, gs, Same.new gs, ⟨_, upd_same, .nil⟩⟩ ?_ ?_ ?_
    · rintro i σ G _ ⟨lf, o1, o2, rfl, _, sG, _⟩
      exact SqL.of (sG _ _ hl)
    · rintro i x T0 σ G hx hT ⟨lf, o1, o2, rfl, fl, sG, zs, hz, pz⟩
      obtain ⟨w', hw, qw⟩ := Paired.at pvs hx
      have sT := Same.new (H := G) (o := .tup [.int i, x]) hT
      have hT2 := upd_same (H := G) (a := T0) (o := .tup [.int i, x])
      have hz1 := sT _ _ hz
      have l1 : zs.length ≤ 600 := by
        rw [Paired.length pz]
        have h1 := steps_len (ws.take i)
        have h2 : (ws.take i).length ≤ ws.length := by rw [List.length_take]; omega
        omega
      generalize upd G T0 (.tup [.int i, x]) = G1 at sT hT2 hz1 ⊢
      have sG1 := sG.trans sT
      replace qw := qw.tk sG1.tk
      cases w' with
      | after z u r =>
        obtain ⟨p, t, rfl, h, f⟩ := qw
        walk_at "go"
        refine i_d (fun _ => ?_) (fun c => absurd rfl c)
        walk_at "go"
        refine r_tupK fun a1 g1 => ?_
        have s3 := Same.new (o := .tup [.str z, .str u, t, .int i]) g1
        have hz2 := s3 _ _ hz1
        have hT3 := s3 _ _ h
        walk_at "go"
        refine r_app hz2 (by omega) ?_
        have h9 : upd (upd G1 a1 (.tup [.str z, .str u, t, .int i])) lf (.lst (zs ++ [.ref a1])) p = some _ := Kp.upd (p := lf) _ _ (ne_of hT3 hz2 (by intro z; cases z)) hT3
        have s9 : Same H (upd (upd G1 a1 (.tup [.str z, .str u, t, .int i])) lf (.lst (zs ++ [.ref a1]))) := Kp.upd.sm (sG1.trans s3) fl
        have tk9 : TK (upd G1 a1 (.tup [.str z, .str u, t, .int i])) (upd (upd G1 a1 (.tup [.str z, .str u, t, .int i])) lf (.lst (zs ++ [.ref a1]))) := TK.lst hz2
        have q9 : LQ StepQ (upd (upd G1 a1 (.tup [.str z, .str u, t, .int i])) lf (.lst (zs ++ [.ref a1]))) lf (stepsOf (ws.take (i + 1))) := by
          refine ⟨_, upd_same, ?_⟩
          rw [steps_take hw]
          exact pd_app (Pd.imp pz fun v b h => h.tk ((sT.trans s3).tk.trans tk9)) (.cons (StepQ.tk ⟨a1, t, rfl, upd_same, f.tk s3.tk⟩ tk9) .nil)
        generalize upd (upd G1 a1 (.tup [.str z, .str u, t, .int i])) lf (.lst (zs ++ [.ref a1])) = G9 at h9 s9 q9 ⊢
        walk_at "go"
        refine i_d (fun c => absurd c (by decide +kernel)) (fun _ => ?_)
        walk_at "go"
        refine i_d (fun c => absurd c (by decide +kernel)) (fun _ => ?_)
        walk_at "go"
        exact ⟨lf, _, _, rfl, fl, s9, q9⟩
      | within z u r =>
        obtain ⟨p, t, rfl, h, pt, rfl, hpt⟩ := qw
        walk_at "go"
        refine i_d (fun c => absurd c (by decide +kernel)) (fun _ => ?_)
        walk_at "go"
        refine i_d (fun _ => ?_) (fun c => absurd rfl c)
        walk_at "go"
        refine r_tupK fun a0 g0 => ?_
        walk_at "go"
        refine r_tupK fun a1 g1 => ?_
        have s3 := (Same.new (o := .tup [.int (0 - r.num), .int r.den]) g0).trans (Same.new (o := .tup [.str u, .str z, .ref a0, .int i]) g1)
        have hz2 := s3 _ _ hz1
        have hT3 := s3 _ _ h
        have hfr : FrQ (upd (upd G1 a0 (.tup [.int (0 - r.num), .int r.den])) a1 (.tup [.str u, .str z, .ref a0, .int i])) (.ref a0) (-r) := fr_neg (by rw [← Int.zero_sub]; exact upd_old g1 upd_same)
        walk_at "go"
        refine r_app hz2 (by omega) ?_
        have h9 : upd (upd (upd G1 a0 (.tup [.int (0 - r.num), .int r.den])) a1 (.tup [.str u, .str z, .ref a0, .int i])) lf (.lst (zs ++ [.ref a1])) p = some _ := Kp.upd (p := lf) _ _ (ne_of hT3 hz2 (by intro z; cases z)) hT3
        have s9 : Same H (upd (upd (upd G1 a0 (.tup [.int (0 - r.num), .int r.den])) a1 (.tup [.str u, .str z, .ref a0, .int i])) lf (.lst (zs ++ [.ref a1]))) := Kp.upd.sm (sG1.trans s3) fl
        have tk9 : TK (upd (upd G1 a0 (.tup [.int (0 - r.num), .int r.den])) a1 (.tup [.str u, .str z, .ref a0, .int i])) (upd (upd (upd G1 a0 (.tup [.int (0 - r.num), .int r.den])) a1 (.tup [.str u, .str z, .ref a0, .int i])) lf (.lst (zs ++ [.ref a1]))) := TK.lst hz2
        have q9 : LQ StepQ (upd (upd (upd G1 a0 (.tup [.int (0 - r.num), .int r.den])) a1 (.tup [.str u, .str z, .ref a0, .int i])) lf (.lst (zs ++ [.ref a1]))) lf (stepsOf (ws.take (i + 1))) := by
          refine ⟨_, upd_same, ?_⟩
          rw [steps_take hw]
          exact pd_app (Pd.imp pz fun v b h => h.tk ((sT.trans s3).tk.trans tk9)) (.cons (StepQ.tk ⟨a1, _, rfl, upd_same, hfr⟩ tk9) .nil)
        generalize upd (upd (upd G1 a0 (.tup [.int (0 - r.num), .int r.den])) a1 (.tup [.str u, .str z, .ref a0, .int i])) lf (.lst (zs ++ [.ref a1])) = G9 at h9 s9 q9 ⊢
        walk_at "go"
        refine i_d (fun c => absurd c (by decide +kernel)) (fun _ => ?_)
        walk_at "go"
        exact ⟨lf, _, _, rfl, fl, s9, q9⟩
      | wit z u =>
        obtain ⟨p, rfl, h⟩ := qw
        walk_at "go"
        refine i_d (fun c => absurd c (by decide +kernel)) (fun _ => ?_)
        walk_at "go"
        refine i_d (fun c => absurd c (by decide +kernel)) (fun _ => ?_)
        walk_at "go"
        refine i_d (fun _ => ?_) (fun c => absurd rfl c)
        walk_at "go"
        refine r_tupK fun a0 g0 => ?_
        walk_at "go"
        refine r_tupK fun a1 g1 => ?_
        walk_at "go"
        refine r_tupK fun a2 g2 => ?_
        walk_at "go"
        refine r_tupK fun a3 g3 => ?_
        walk_at "go"
        refine r_lstK fun l4 g4 => ?_
        walk_at "go"
        have b0 := Same.new (H := G1) (o := .tup [.int 0, .int 1]) g0
        have b1 := b0.trans (Same.new (o := .tup [.str z, .str u, .ref a0, .int i]) g1)
        have b2 := b1.trans (Same.new (o := .tup [.int 0, .int 1]) g2)
        have b3 := b2.trans (Same.new (o := .tup [.str u, .str z, .ref a2, .int i]) g3)
        have b4 := b3.trans (Same.new (o := .lst [.ref a1, .ref a3]) g4)
        refine a_lst (b4 _ _ hz1) upd_same (by show _ + 2 ≤ _; omega) fun l5 g5 => ?_
        walk_at "go"
        have b5 := b4.trans (Same.new (o := .lst (zs ++ [.ref a1, .ref a3])) g5)
        refine ⟨l5, _, _, rfl, sG1.free (b4.free g5), sG1.trans b5, ⟨_, upd_same, ?_⟩⟩
        rw [steps_take hw]
        refine pd_app (Pd.imp pz fun v b h => h.tk (sT.trans b5).tk) (.cons ?_ (.cons ?_ .nil))
        · exact ⟨a1, _, rfl, upd_old g5 (upd_old g4 (upd_old g3 (upd_old g2 upd_same))), fr_zero (upd_old g5 (upd_old g4 (upd_old g3 (upd_old g2 (upd_old g1 upd_same)))))⟩
        · exact ⟨a3, _, rfl, upd_old g5 (upd_old g4 upd_same), fr_zero (upd_old g5 (upd_old g4 (upd_old g3 upd_same)))⟩
      | frm z r =>
        obtain ⟨p, t, rfl, h, f⟩ := qw
        walk_at "go"
        refine i_d (fun c => absurd c (by decide +kernel)) (fun _ => ?_)
        walk_at "go"
        refine i_d (fun c => absurd c (by decide +kernel)) (fun _ => ?_)
        walk_at "go"
        refine i_d (fun c => absurd c (by decide +kernel)) (fun _ => ?_)
        walk_at "go"
        refine ⟨lf, _, _, rfl, fl, sG1, ⟨zs, hz1, ?_⟩⟩
        rw [steps_take hw]
        show Paired _ zs (_ ++ [])
        rw [List.append_nil]
        exact Pd.imp pz fun v b h => h.tk sT.tk
    · rintro σ G ⟨lf, o1, o2, rfl, fl, sG, hq⟩
      rw [hvl, List.take_length] at hq
      walk_at "go"
      exact q lf G fl sG hq
theorem ok_sum (T : Bl mg) (d : Df K mg "_law_sum" s_sum ["_law_one", "_law_other"]  ) : Okf P w K mg base (k + 1) "_law_sum" ["_law_one", "_law_other"] spSumW := by
  refine Okf.of d sc_sum (fun vs H Q E h => ?_) (fun f cdv A outer s H vs Q E hr h => ?_)
  · obtain ⟨p1, p2, a, b, c, d', n, rfl, _⟩ := h
    rfl
  · obtain ⟨p1, p2, a, b, c, d', n, rfl, h1, h2, ma, mb, mc, md, hn, q⟩ := h
    refine ⟨_, (@pss_one _ _ _ (@ps_ret _ _ _ _ (@pe_tup _ _ _ _ _ (@pa_cons _ _ _ _ _ (@pe_op _ _ _ _ _ _ _ _ op_addA (@pe_op _ _ _ _ _ _ _ _ op_mulB (@pe_ix _ _ _ _ _ _ _ ix_LT (pv 0) (@pe_int _ _ _ _) (fun _ _ => rfl)) (@pe_ix _ _ _ _ _ _ _ ix_LT (pv 1) (@pe_int _ _ _ _) (fun _ _ => rfl))) (@pe_op _ _ _ _ _ _ _ _ op_mulB (@pe_ix _ _ _ _ _ _ _ ix_LT (pv 1) (@pe_int _ _ _ _) (fun _ _ => rfl)) (@pe_ix _ _ _ _ _ _ _ ix_LT (pv 0) (@pe_int _ _ _ _) (fun _ _ => rfl)))) (@pa_cons _ _ _ _ _ (@pe_op _ _ _ _ _ _ _ _ op_mulB (@pe_ix _ _ _ _ _ _ _ ix_LT (pv 0) (@pe_int _ _ _ _) (fun _ _ => rfl)) (@pe_ix _ _ _ _ _ _ _ ix_LT (pv 1) (@pe_int _ _ _ _) (fun _ _ => rfl))) (@pa_nil _) (by rfl)) (by rfl))))), ?_⟩
    walk_at "go"
    refine r_mul (CMulB.s ma md (by omega) (by omega)) ?_
    walk_at "go"
    refine r_mul (CMulB.s mc mb (by omega) (by omega)) ?_
    walk_at "go"
    refine r_mul (CMulB.s mb md (by omega) (by omega)) ?_
    walk_at "go"
    refine r_tupK fun p hp => ?_
    walk_at "go"
    exact q p hp
theorem ok_less (T : Bl mg) (d : Df K mg "_law_less" s_less ["_law_one", "_law_other"]  ) : Okf P w K mg base (k + 1) "_law_less" ["_law_one", "_law_other"] spLessW := by
  refine Okf.of d sc_less (fun vs H Q E h => ?_) (fun f cdv A outer s H vs Q E hr h => ?_)
  · obtain ⟨p1, p2, a, b, c, d', rfl, _⟩ := h
    rfl
  · obtain ⟨p1, p2, a, b, c, d', rfl, h1, h2, m1, m2, q⟩ := h
    refine ⟨_, (@pss_one _ _ _ (@ps_ret _ _ _ _ (@pe_cmpR _ _ _ _ _ _ _ _ op_lt (@pe_op _ _ _ _ _ _ _ _ op_mulB (@pe_ix _ _ _ _ _ _ _ ix_LT (pv 0) (@pe_int _ _ _ _) (fun _ _ => rfl)) (@pe_ix _ _ _ _ _ _ _ ix_LT (pv 1) (@pe_int _ _ _ _) (fun _ _ => rfl))) (@pe_op _ _ _ _ _ _ _ _ op_mulB (@pe_ix _ _ _ _ _ _ _ ix_LT (pv 1) (@pe_int _ _ _ _) (fun _ _ => rfl)) (@pe_ix _ _ _ _ _ _ _ ix_LT (pv 0) (@pe_int _ _ _ _) (fun _ _ => rfl))) (nomark _)))), ?_⟩
    walk_at "go"
    refine r_mul m1 ?_
    walk_at "go"
    refine r_mul m2 ?_
    walk_at "go"
    exact q
theorem ok_alike (T : Bl mg) (d : Df K mg "_law_alike" s_alike ["_law_one", "_law_other"]  ) : Okf P w K mg base (k + 1) "_law_alike" ["_law_one", "_law_other"] spAlikeW := by
  refine Okf.of d sc_alike (fun vs H Q E h => ?_) (fun f cdv A outer s H vs Q E hr h => ?_)
  · obtain ⟨p1, p2, a, b, c, d', rfl, _⟩ := h
    rfl
  · obtain ⟨p1, p2, a, b, c, d', rfl, h1, h2, m1, m2, q⟩ := h
    refine ⟨_, (@pss_one _ _ _ (@ps_ret _ _ _ _ (@pe_cmpR _ _ _ _ _ _ _ _ (op_eqA hr.units) (@pe_op _ _ _ _ _ _ _ _ op_mulB (@pe_ix _ _ _ _ _ _ _ ix_LT (pv 0) (@pe_int _ _ _ _) (fun _ _ => rfl)) (@pe_ix _ _ _ _ _ _ _ ix_LT (pv 1) (@pe_int _ _ _ _) (fun _ _ => rfl))) (@pe_op _ _ _ _ _ _ _ _ op_mulB (@pe_ix _ _ _ _ _ _ _ ix_LT (pv 1) (@pe_int _ _ _ _) (fun _ _ => rfl)) (@pe_ix _ _ _ _ _ _ _ ix_LT (pv 0) (@pe_int _ _ _ _) (fun _ _ => rfl))) (nomark _)))), ?_⟩
    walk_at "go"
    refine r_mul m1 ?_
    walk_at "go"
    refine r_mul m2 ?_
    walk_at "go"
    exact q
theorem ok_is_lowest (T : Bl mg) (d : Df K mg "_law_is_lowest" s_is_lowest ["_law_found"]  ) (o_lowest : Okf P w K mg base k "_law_lowest" ["_law_top", "_law_bottom"] spLowest) : Okf P w K mg base (k + 1) "_law_is_lowest" ["_law_found"] spIsLow := by
  refine Okf.of d sc_is_lowest (fun vs H Q E h => ?_) (fun f cdv A outer s H vs Q E hr h => ?_)
  · obtain ⟨v, q0, rfl, _⟩ := h
    rfl
  · obtain ⟨v, q0, rfl, ⟨p, rfl, hp⟩, z0, q⟩ := h
    refine ⟨_, (@pss_cons _ _ _ _ _ (@ps_if _ _ _ _ _ _ _ _ (@PW.pt _ _ _ (@pw_or _ _ _ _ _ _ _ (@pt_not _ _ _ _ (@pt_val _ _ _ (@pe_callB _ _ _ _ _ _ _ _ _ (call_isTy (T := "tuple")) rfl T.z_isinstance bt_isinstance (@pa_cons _ _ _ _ _ (pv 0) (@pa_cons _ _ _ _ _ (@pe_bltn _ _ (v := .ty "tuple") _ _ rfl T.z_tuple bt_tuple rfl (by decide) (by decide)) (@pa_nil _) (by rfl)) (by rfl)) (by decide) (by decide) (by rfl) (by rfl)) (by intro _; rfl))) (@pw_or1 _ _ _ _ (@pt_cmpR _ _ _ _ _ _ _ _ (op_neA hr.units) (@pe_callB _ _ _ _ _ _ _ _ _ c_len rfl T.z_len bt_len (@pa_cons _ _ _ _ _ (pv 0) (@pa_nil _) (by rfl)) (by decide) (by decide) (by rfl) (by rfl)) (@pe_int _ _ _ _) (nomark _))))) (@pss_one _ _ _ (@ps_ret _ _ _ _ (@pe_bl _ _ _ _))) (@pss_nil _)) (@pss_cons _ _ _ _ _ (@ps_for _ _ _ _ _ _ _ _ PassesOwn.never rfl (@pi_tup _ _ _ _ (pv 0)) (@pg_name _ _ (i := 1) _ sc_is_lowest.nd rfl (by first | exact Or.inl rfl | exact Or.inr rfl) (by first | exact .inl rfl | exact .inr rfl | assumption)) (@pss_one _ _ _ (@ps_if _ _ _ _ _ _ _ _ (@PW.pt _ _ _ (@pw_or _ _ _ _ _ _ _ (@pt_not _ _ _ _ (@pt_val _ _ _ (@pe_callB _ _ _ _ _ _ _ _ _ (call_isTy (T := "int")) rfl T.z_isinstance bt_isinstance (@pa_cons _ _ _ _ _ (pv 1) (@pa_cons _ _ _ _ _ (@pe_bltn _ _ (v := .ty "int") _ _ rfl T.z_int bt_int rfl (by decide) (by decide)) (@pa_nil _) (by rfl)) (by rfl)) (by decide) (by decide) (by rfl) (by rfl)) (by intro _; rfl))) (@pw_or1 _ _ _ _ (@pt_val _ _ _ (@pe_callB _ _ _ _ _ _ _ _ _ (call_isTy (T := "bool")) rfl T.z_isinstance bt_isinstance (@pa_cons _ _ _ _ _ (pv 1) (@pa_cons _ _ _ _ _ (@pe_bltn _ _ (v := .ty "bool") _ _ rfl T.z_bool bt_bool rfl (by decide) (by decide)) (@pa_nil _) (by rfl)) (by rfl)) (by decide) (by decide) (by rfl) (by rfl)) (by intro _; rfl))))) (@pss_one _ _ _ (@ps_ret _ _ _ _ (@pe_bl _ _ _ _))) (@pss_nil _))) (by intro _; rfl)) (@pss_one _ _ _ (@ps_ret _ _ _ _ (@pe_and _ _ _ _ _ _ _ (@pe_cmpR _ _ _ _ _ _ _ _ op_gt (@pe_ix _ _ _ _ _ _ _ ix_LT (pv 0) (@pe_int _ _ _ _) (fun _ _ => rfl)) (@pe_int _ _ _ _) (nomark _)) (@pe_one _ _ _ _ _ (@pe_cmpR _ _ _ _ _ _ _ _ (op_eqA hr.units) (@pe_callO _ _ _ _ _ _ _ _ _ _ o_lowest hr rfl (@pa_cons _ _ _ _ _ (@pe_ix _ _ _ _ _ _ _ ix_LT (pv 0) (@pe_int _ _ _ _) (fun _ _ => rfl)) (@pa_cons _ _ _ _ _ (@pe_ix _ _ _ _ _ _ _ ix_LT (pv 0) (@pe_int _ _ _ _) (fun _ _ => rfl)) (@pa_nil _) (by rfl)) (by rfl)) (by decide) (by rfl) (by rfl)) (pv 0) (nomark _)))))))), ?_⟩
    have hd := q0.den_pos
    walk_at "go"
    refine r_isTy (.tup hp) kit_tuple_tuple ?_
    walk_at "go"
    refine i_d (fun _ => ?_) (fun c => absurd rfl c)
    walk_at "go"
    refine ⟨p, rfl, ⟨_, SqT.of hp⟩, ?_⟩
    refine r_forTu (xs := [.int q0.num, .int q0.den]) (fun i σ G => ∃ o1, σ = [some (.ref p), o1] ∧ G = H) ⟨_, rfl, rfl⟩ ?_ ?_ ?_
    · rintro i σ G _ ⟨o1, rfl, rfl⟩
      exact SqT.of hp
    · rintro i x σ G hx ⟨o1, rfl, rfl⟩
      obtain ⟨z, rfl⟩ : ∃ z : Int, x = .int z := by
        have hm := List.mem_of_getElem? hx
        simp only [List.mem_cons, List.not_mem_nil, or_false] at hm
        rcases hm with rfl | rfl
        · exact ⟨_, rfl⟩
        · exact ⟨_, rfl⟩
      walk_at "go"
      refine r_isTy (.int _) kit_int_int ?_
      walk_at "go"
      refine r_isTy (.int _) kit_int_bool ?_
      walk_at "go"
      exact ⟨_, rfl, rfl⟩
    · rintro σ G ⟨o1, rfl, rfl⟩
      walk_at "go"
      have zz := z0.sm
      refine ⟨_, _, rfl, by omega, zz.1, zz.2, fun p2 gp2 => ?_⟩
      walk_at "go"
      have e := low_same (a := q0.num) (b := (q0.den : Int)) (by omega) q0.reduced
      refine e_2 upd_same (upd_old gp2 hp) ?_
      rw [e.1, e.2, decide_eq_true ⟨rfl, rfl⟩]
      exact q _ (Same.new gp2)
set_option maxHeartbeats 0 in
theorem ok_base (T : Bl mg) (d : Df K mg "_law_base" s_base ["_law_wishes"]  ) (o_less : Okf P w K mg base k "_law_less" ["_law_one", "_law_other"] spLessW) : Okf P w K mg base (k + 1) "_law_base" ["_law_wishes"] spBaseW := by
  refine Okf.of d sc_base (fun vs H Q E h => ?_) (fun f cdv A outer s H vs Q E hr h => ?_)
  · obtain ⟨l, ws, rfl, _⟩ := h
    rfl
  · obtain ⟨l, ws, rfl, ⟨vs', hl, pvs⟩, hok, hlen, q⟩ := h
    refine ⟨_, (@pss_cons _ _ _ _ _ (@ps_set _ _ (i := 1) _ _ _ _ sc_base.nd rfl (by first | exact Or.inl rfl | exact Or.inr rfl) (@pe_dnewK _ _) (by rfl) (by first | exact .inl rfl | exact .inr rfl | assumption)) (@pss_cons _ _ _ _ _ (@ps_for _ _ _ _ _ _ _ _ PassesOwn.never rfl (@pi_list _ _ _ _ (pv 0)) (@pg_name _ _ (i := 2) _ sc_base.nd rfl (by first | exact Or.inl rfl | exact Or.inr rfl) (by first | exact .inl rfl | exact .inr rfl | assumption)) (@pss_one _ _ _ (@ps_if _ _ _ _ _ _ _ _ (@pt_cmpR _ _ _ _ _ _ _ _ (op_eqA hr.units) (@pe_ix _ _ _ _ _ _ _ ix_LT (pv 2) (@pe_int _ _ _ _) (fun _ _ => rfl)) (@pe_str _ _ _ _) (nomark _)) (@pss_cons _ _ _ _ _ (@ps_if _ _ _ _ _ _ _ _ (@pt_val _ _ _ (@pe_callO _ _ _ _ _ _ _ _ _ _ o_less hr rfl (@pa_cons _ _ _ _ _ (@pe_dget2 _ _ _ _ _ _ _ _ _ hr.u1 (pv 1) (@pe_ix _ _ _ _ _ _ _ ix_LT (pv 2) (@pe_int _ _ _ _) (fun _ _ => rfl)) (@pe_tup _ _ _ _ _ (@pa_cons _ _ _ _ _ (@pe_int _ _ _ _) (@pa_cons _ _ _ _ _ (@pe_int _ _ _ _) (@pa_nil _) (by rfl)) (by rfl))) ⟨rfl, rfl, rfl, rfl⟩) (@pa_cons _ _ _ _ _ (@pe_ix _ _ _ _ _ _ _ ix_LT (pv 2) (@pe_int _ _ _ _) (fun _ _ => rfl)) (@pa_nil _) (by rfl)) (by rfl)) (by decide) (by rfl) (by rfl)) (by intro _; rfl)) (@pss_one _ _ _ (@ps_dput _ _ _ _ _ _ _ _ _ hr.u1 (pv 1) (@pe_ix _ _ _ _ _ _ _ ix_LT (pv 2) (@pe_int _ _ _ _) (fun _ _ => rfl)) (@pe_ix _ _ _ _ _ _ _ ix_LT (pv 2) (@pe_int _ _ _ _) (fun _ _ => rfl)) rfl)) (@pss_nil _)) (@pss_one _ _ _ (@ps_expr _ _ _ _ (@pe_bm _ _ _ _ _ _ _ _ _ _ _ _ PySem.F.plainAttrs_dict PySem.F.slot_dict_setdefault PySem.F.type_dict_setdefault mt_setdef (pv 1) (@pa_cons _ _ _ _ _ (@pe_ix _ _ _ _ _ _ _ ix_LT (pv 2) (@pe_int _ _ _ _) (fun _ _ => rfl)) (@pa_cons _ _ _ _ _ (@pe_tup _ _ _ _ _ (@pa_cons _ _ _ _ _ (@pe_int _ _ _ _) (@pa_cons _ _ _ _ _ (@pe_int _ _ _ _) (@pa_nil _) (by rfl)) (by rfl))) (@pa_nil _) (by rfl)) (by rfl)) (by rfl) (by rfl) (by rfl) (by rfl) (by rfl)) (by rfl)))) (@pss_cons _ _ _ _ _ (@ps_expr _ _ _ _ (@pe_bm _ _ _ _ _ _ _ _ _ _ _ _ PySem.F.plainAttrs_dict PySem.F.slot_dict_setdefault PySem.F.type_dict_setdefault mt_setdef (pv 1) (@pa_cons _ _ _ _ _ (@pe_ix _ _ _ _ _ _ _ ix_LT (pv 2) (@pe_int _ _ _ _) (fun _ _ => rfl)) (@pa_cons _ _ _ _ _ (@pe_tup _ _ _ _ _ (@pa_cons _ _ _ _ _ (@pe_int _ _ _ _) (@pa_cons _ _ _ _ _ (@pe_int _ _ _ _) (@pa_nil _) (by rfl)) (by rfl))) (@pa_nil _) (by rfl)) (by rfl)) (by rfl) (by rfl) (by rfl) (by rfl) (by rfl)) (by rfl)) (@pss_one _ _ _ (@ps_expr _ _ _ _ (@pe_bm _ _ _ _ _ _ _ _ _ _ _ _ PySem.F.plainAttrs_dict PySem.F.slot_dict_setdefault PySem.F.type_dict_setdefault mt_setdef (pv 1) (@pa_cons _ _ _ _ _ (@pe_ix _ _ _ _ _ _ _ ix_LT (pv 2) (@pe_int _ _ _ _) (fun _ _ => rfl)) (@pa_cons _ _ _ _ _ (@pe_tup _ _ _ _ _ (@pa_cons _ _ _ _ _ (@pe_int _ _ _ _) (@pa_cons _ _ _ _ _ (@pe_int _ _ _ _) (@pa_nil _) (by rfl)) (by rfl))) (@pa_nil _) (by rfl)) (by rfl)) (by rfl) (by rfl) (by rfl) (by rfl) (by rfl)) (by rfl)))))) (by intro _; rfl)) (@pss_one _ _ _ (@ps_ret _ _ _ _ (pv 1))))), ?_⟩
    walk_at "go"
    refine r_dnew fun d hd => ?_
    walk_at "go"
    have hvl : vs'.length = ws.length := Paired.length pvs
    refine r_listK (SqL.of (upd_old hd hl)) ?_
    refine r_forL (xs := vs') (fun i σ G => ∃ o2 : Option V, ∃ o3 : Option V, σ = [some (.ref l), some (.ref d), o2] ∧ o3 = o2 ∧ Same H G ∧ DQ FrQ G d (bfold (ws.take i))) ⟨_, _, rfl, rfl, Same.new hd, [], upd_same, .nil⟩ ?_ ?_ ?_
    · rintro i σ G _ ⟨o2, o3, rfl, _, sG, _⟩
      exact SqL.of (sG _ _ hl)
    · rintro i x σ G0 hx ⟨o2, o3, rfl, _, sG0, kv0, hk0, kq0⟩
      have big : ∀ {kv : List (Key × V)} {m : AL Key Rat} {G : Hp} (k : Nat), KQ FrQ G kv m → List.length (α := Key × Rat) m ≤ 2 * ws.length + k → k ≤ 10 → kv.length ≤ 1000 := fun k q h hk => by
        have := q.len
        omega
      have bf : List.length (α := Key × Rat) (bfold (ws.take i)) ≤ 2 * ws.length := by
        have h := bfold_len (ws.take i)
        rw [List.length_take] at h
        exact Nat.le_trans h (by omega)
      obtain ⟨w', hw, qw⟩ := Paired.at pvs hx
      cases w' with
      | after z u r =>
        obtain ⟨p, t, rfl, hp, f⟩ := qw
        have hp0 := sG0 _ _ hp
        walk_at "go"
        refine i_d (fun c => absurd c (by decide +kernel)) (fun _ => ?_)
        walk_at "go"
        refine r_tupK fun z1 gz1 => ?_
        have sz1 := Same.new (H := G0) (o := .tup [.int 0, .int 1]) gz1
        have hkz1 := sz1 _ _ hk0
        have kqz1 : KQ FrQ (upd G0 z1 (.tup [.int 0, .int 1])) kv0 (bfold (ws.take i)) := kq0.imp fun v b f => f.tk sz1.tk
        have fz1 : FrQ (upd G0 z1 (.tup [.int 0, .int 1])) (.ref z1) 0 := fr_zero upd_same
        have sHz1 := sG0.trans sz1
        generalize upd G0 z1 (.tup [.int 0, .int 1]) = Gz1 at sz1 hkz1 kqz1 fz1 sHz1 ⊢
        walk_at "go"
        refine r_sd2 (c := Sum.inr z) (m := bfold (ws.take i)) hkz1 kqz1 fz1 (big 1 kqz1 (by omega) (by decide)) fun v1 G1 kv1 hk1 kq1 tk1 kp1 => ?_
        have sG1 : Same H G1 := Kp.sm kp1 sHz1 hd
        have hp1 := sG1 _ _ hp
        walk_at "go"
        refine r_tupK fun z2 gz2 => ?_
        have sz2 := Same.new (H := G1) (o := .tup [.int 0, .int 1]) gz2
        have hkz2 := sz2 _ _ hk1
        have kqz2 : KQ FrQ (upd G1 z2 (.tup [.int 0, .int 1])) kv1 (asd (bfold (ws.take i)) (Sum.inr z) 0) := kq1.imp fun v b f => f.tk sz2.tk
        have fz2 : FrQ (upd G1 z2 (.tup [.int 0, .int 1])) (.ref z2) 0 := fr_zero upd_same
        have sHz2 := sG1.trans sz2
        generalize upd G1 z2 (.tup [.int 0, .int 1]) = Gz2 at sz2 hkz2 kqz2 fz2 sHz2 ⊢
        walk_at "go"
        refine r_sd2 (c := Sum.inr u) (m := asd (bfold (ws.take i)) (Sum.inr z) 0) hkz2 kqz2 fz2 (big 2 kqz2 (Nat.le_trans (asd_len _ _ _) (by omega)) (by decide)) fun v2 G2 kv2 hk2 kq2 tk2 kp2 => ?_
        have sG2 : Same H G2 := Kp.sm kp2 sHz2 hd
        have hp2 := sG2 _ _ hp
        walk_at "go"
        refine ⟨_, _, rfl, rfl, sG2, ?_⟩
        rw [bfold_take hw]
        exact ⟨_, hk2, kq2⟩
      | within z u r =>
        obtain ⟨p, t, rfl, hp, f⟩ := qw
        have hp0 := sG0 _ _ hp
        walk_at "go"
        refine i_d (fun c => absurd c (by decide +kernel)) (fun _ => ?_)
        walk_at "go"
        refine r_tupK fun z1 gz1 => ?_
        have sz1 := Same.new (H := G0) (o := .tup [.int 0, .int 1]) gz1
        have hkz1 := sz1 _ _ hk0
        have kqz1 : KQ FrQ (upd G0 z1 (.tup [.int 0, .int 1])) kv0 (bfold (ws.take i)) := kq0.imp fun v b f => f.tk sz1.tk
        have fz1 : FrQ (upd G0 z1 (.tup [.int 0, .int 1])) (.ref z1) 0 := fr_zero upd_same
        have sHz1 := sG0.trans sz1
        generalize upd G0 z1 (.tup [.int 0, .int 1]) = Gz1 at sz1 hkz1 kqz1 fz1 sHz1 ⊢
        walk_at "go"
        refine r_sd2 (c := Sum.inr z) (m := bfold (ws.take i)) hkz1 kqz1 fz1 (big 1 kqz1 (by omega) (by decide)) fun v1 G1 kv1 hk1 kq1 tk1 kp1 => ?_
        have sG1 : Same H G1 := Kp.sm kp1 sHz1 hd
        have hp1 := sG1 _ _ hp
        walk_at "go"
        refine r_tupK fun z2 gz2 => ?_
        have sz2 := Same.new (H := G1) (o := .tup [.int 0, .int 1]) gz2
        have hkz2 := sz2 _ _ hk1
        have kqz2 : KQ FrQ (upd G1 z2 (.tup [.int 0, .int 1])) kv1 (asd (bfold (ws.take i)) (Sum.inr z) 0) := kq1.imp fun v b f => f.tk sz2.tk
        have fz2 : FrQ (upd G1 z2 (.tup [.int 0, .int 1])) (.ref z2) 0 := fr_zero upd_same
        have sHz2 := sG1.trans sz2
        generalize upd G1 z2 (.tup [.int 0, .int 1]) = Gz2 at sz2 hkz2 kqz2 fz2 sHz2 ⊢
        walk_at "go"
        refine r_sd2 (c := Sum.inr u) (m := asd (bfold (ws.take i)) (Sum.inr z) 0) hkz2 kqz2 fz2 (big 2 kqz2 (Nat.le_trans (asd_len _ _ _) (by omega)) (by decide)) fun v2 G2 kv2 hk2 kq2 tk2 kp2 => ?_
        have sG2 : Same H G2 := Kp.sm kp2 sHz2 hd
        have hp2 := sG2 _ _ hp
        walk_at "go"
        refine ⟨_, _, rfl, rfl, sG2, ?_⟩
        rw [bfold_take hw]
        exact ⟨_, hk2, kq2⟩
      | wit z u =>
        obtain ⟨p, rfl, hp⟩ := qw
        have hp0 := sG0 _ _ hp
        walk_at "go"
        refine i_d (fun c => absurd c (by decide +kernel)) (fun _ => ?_)
        walk_at "go"
        refine r_tupK fun z1 gz1 => ?_
        have sz1 := Same.new (H := G0) (o := .tup [.int 0, .int 1]) gz1
        have hkz1 := sz1 _ _ hk0
        have kqz1 : KQ FrQ (upd G0 z1 (.tup [.int 0, .int 1])) kv0 (bfold (ws.take i)) := kq0.imp fun v b f => f.tk sz1.tk
        have fz1 : FrQ (upd G0 z1 (.tup [.int 0, .int 1])) (.ref z1) 0 := fr_zero upd_same
        have sHz1 := sG0.trans sz1
        generalize upd G0 z1 (.tup [.int 0, .int 1]) = Gz1 at sz1 hkz1 kqz1 fz1 sHz1 ⊢
        walk_at "go"
        refine r_sd2 (c := Sum.inr z) (m := bfold (ws.take i)) hkz1 kqz1 fz1 (big 1 kqz1 (by omega) (by decide)) fun v1 G1 kv1 hk1 kq1 tk1 kp1 => ?_
        have sG1 : Same H G1 := Kp.sm kp1 sHz1 hd
        have hp1 := sG1 _ _ hp
        walk_at "go"
        refine r_tupK fun z2 gz2 => ?_
        have sz2 := Same.new (H := G1) (o := .tup [.int 0, .int 1]) gz2
        have hkz2 := sz2 _ _ hk1
        have kqz2 : KQ FrQ (upd G1 z2 (.tup [.int 0, .int 1])) kv1 (asd (bfold (ws.take i)) (Sum.inr z) 0) := kq1.imp fun v b f => f.tk sz2.tk
        have fz2 : FrQ (upd G1 z2 (.tup [.int 0, .int 1])) (.ref z2) 0 := fr_zero upd_same
        have sHz2 := sG1.trans sz2
        generalize upd G1 z2 (.tup [.int 0, .int 1]) = Gz2 at sz2 hkz2 kqz2 fz2 sHz2 ⊢
        walk_at "go"
        refine r_sd2 (c := Sum.inr u) (m := asd (bfold (ws.take i)) (Sum.inr z) 0) hkz2 kqz2 fz2 (big 2 kqz2 (Nat.le_trans (asd_len _ _ _) (by omega)) (by decide)) fun v2 G2 kv2 hk2 kq2 tk2 kp2 => ?_
        have sG2 : Same H G2 := Kp.sm kp2 sHz2 hd
        have hp2 := sG2 _ _ hp
        walk_at "go"
        refine ⟨_, _, rfl, rfl, sG2, ?_⟩
        rw [bfold_take hw]
        exact ⟨_, hk2, kq2⟩
      | frm z r =>
        obtain ⟨p, t, rfl, hp, f⟩ := qw
        have hp0 := sG0 _ _ hp
        walk_at "go"
        refine i_d (fun _ => ?_) (fun c => absurd rfl c)
        walk_at "go"
        have zq : Sz 8000 r := (ok_sz (hok _ (List.mem_of_getElem? hw))).2
        refine ⟨d, rfl, .inl ⟨kv0, .inl hk0⟩, ?_⟩
        walk_at "go"
        refine r_tupK fun zz gzz => ?_
        have szz := Same.new (H := G0) (o := .tup [.int 0, .int 1]) gzz
        have hkz0 := szz _ _ hk0
        have kqz0 : KQ FrQ (upd G0 zz (.tup [.int 0, .int 1])) kv0 (bfold (ws.take i)) := kq0.imp fun v b f => f.tk szz.tk
        have fzz : FrQ (upd G0 zz (.tup [.int 0, .int 1])) (.ref zz) 0 := fr_zero upd_same
        have sHz0 := sG0.trans szz
        generalize upd G0 zz (.tup [.int 0, .int 1]) = Gz at szz hkz0 kqz0 fzz sHz0 ⊢
        have hpz := sHz0 _ _ hp
        obtain ⟨pf, rfl, hpf⟩ := f.tk sHz0.tk
        walk_at "go"
        refine ⟨valV kv0 (Sum.inr z), .inl ⟨kv0, Sum.inr z, .inl hkz0, rfl, rfl⟩, ?_⟩
        have bok := bfold_ok (Pk := fun _ => True) (Pv := Sz 8000) (by constructor <;> decide +kernel) (ws.take i) fun x hx => ok_sz (hok x (List.mem_of_mem_take hx))
        obtain ⟨pr, r0, hpr, er0, zr, er⟩ : ∃ (pr : Addr) (r0 : Rat), Gz pr = some (.tup [.int r0.num, .int r0.den]) ∧ (valV kv0 (Sum.inr z)).getD (.ref zz) = .ref pr ∧ Sz 8000 r0 ∧ (aget (bfold (ws.take i)) (Sum.inr z)).getD 0 = r0 := by
          rcases kqz0.val (k := Sum.inr z) with ⟨e1, e2⟩ | ⟨v1, r1, e1, e2, f1⟩
          · obtain ⟨p1, e3, hp1⟩ := fzz
            cases e3
            exact ⟨zz, 0, hp1, by rw [e1]; rfl, by constructor <;> decide +kernel, by rw [e2]; rfl⟩
          · obtain ⟨p1, rfl, hp1⟩ := id f1
            exact ⟨p1, r1, hp1, by rw [e1]; rfl, bok.vs _ (aget_mem e2), by rw [e2]; rfl⟩
        rw [er0]
        walk_at "go"
        have M : ∀ {i j : Int}, Sm 8000 i → Sm 8000 j → CMulB i j := fun h1 h2 => CMulB.s h1 h2 (by decide) (by decide)
        refine ⟨pr, pf, _, _, _, _, rfl, hpr, hpf, M zr.sm.1 zq.sm.2, M zq.sm.1 zr.sm.2, ?_⟩
        have el := less_iff (q := r0) (r := r)
        walk_at "go"
        rw [el]
        have hbl := bfrm_law (bfold (ws.take i)) z r
        rw [er] at hbl
        refine i_d (fun c => ?_) (fun c => ?_)
        · rw [if_pos c] at hbl
          walk_at "go"
          refine r_dPs hkz0 (big 0 kqz0 (by omega) (by decide)) ?_
          have hk0 := upd_same (H := Gz) (a := d) (o := .dK (putK kv0 (Sum.inr z) (.ref pf)))
          have tkp : TK Gz (upd Gz d (.dK (putK kv0 (Sum.inr z) (.ref pf)))) := TK.dic hkz0
          have kq0 : KQ FrQ (upd Gz d (.dK (putK kv0 (Sum.inr z) (.ref pf)))) (putK kv0 (Sum.inr z) (.ref pf)) (aput (bfold (ws.take i)) (Sum.inr z) r) := (kqz0.put (k := Sum.inr z) ⟨pf, rfl, hpf⟩).imp fun v b f => f.tk tkp
          have sG0 : Same H (upd Gz d (.dK (putK kv0 (Sum.inr z) (.ref pf)))) := Kp.upd.sm sHz0 hd
          have hp0 := sG0 _ _ hp
          have hlen0 : List.length (α := Key × Rat) (aput (bfold (ws.take i)) (Sum.inr z) r) ≤ 2 * ws.length + 1 := Nat.le_trans (aput_len _ _ _) (by omega)
          generalize upd Gz d (.dK (putK kv0 (Sum.inr z) (.ref pf))) = G0 at hk0 kq0 sG0 hp0 ⊢
          generalize putK kv0 (Sum.inr z) (.ref pf) = kv0 at hk0 kq0
          walk_at "go"
          refine r_tupK fun z1 gz1 => ?_
          have sz1 := Same.new (H := G0) (o := .tup [.int 0, .int 1]) gz1
          have hkz1 := sz1 _ _ hk0
          have kqz1 : KQ FrQ (upd G0 z1 (.tup [.int 0, .int 1])) kv0 (aput (bfold (ws.take i)) (Sum.inr z) r) := kq0.imp fun v b f => f.tk sz1.tk
          have fz1 : FrQ (upd G0 z1 (.tup [.int 0, .int 1])) (.ref z1) 0 := fr_zero upd_same
          have sHz1 := sG0.trans sz1
          generalize upd G0 z1 (.tup [.int 0, .int 1]) = Gz1 at sz1 hkz1 kqz1 fz1 sHz1 ⊢
          walk_at "go"
          refine r_sd2 (c := Sum.inr z) (m := aput (bfold (ws.take i)) (Sum.inr z) r) hkz1 kqz1 fz1 (big 1 kqz1 (hlen0) (by decide)) fun v1 G1 kv1 hk1 kq1 tk1 kp1 => ?_
          have sG1 : Same H G1 := Kp.sm kp1 sHz1 hd
          have hp1 := sG1 _ _ hp
          walk_at "go"
          refine ⟨_, _, rfl, rfl, sG1, ?_⟩
          rw [bfold_take hw]
          show DQ FrQ _ d (bfrm _ z r)
          rw [← hbl]
          exact ⟨_, hk1, kq1⟩
        · rw [if_neg c] at hbl
          clear kq0 hk0 sG0
          have hk0 := hkz0
          have kq0 := kqz0
          have sG0 := sHz0
          walk_at "go"
          refine r_tupK fun z1 gz1 => ?_
          have sz1 := Same.new (H := Gz) (o := .tup [.int 0, .int 1]) gz1
          have hkz1 := sz1 _ _ hk0
          have kqz1 : KQ FrQ (upd Gz z1 (.tup [.int 0, .int 1])) kv0 (bfold (ws.take i)) := kq0.imp fun v b f => f.tk sz1.tk
          have fz1 : FrQ (upd Gz z1 (.tup [.int 0, .int 1])) (.ref z1) 0 := fr_zero upd_same
          have sHz1 := sG0.trans sz1
          generalize upd Gz z1 (.tup [.int 0, .int 1]) = Gz1 at sz1 hkz1 kqz1 fz1 sHz1 ⊢
          walk_at "go"
          refine r_sd2 (c := Sum.inr z) (m := bfold (ws.take i)) hkz1 kqz1 fz1 (big 1 kqz1 (by omega) (by decide)) fun v1 G1 kv1 hk1 kq1 tk1 kp1 => ?_
          have sG1 : Same H G1 := Kp.sm kp1 sHz1 hd
          have hp1 := sG1 _ _ hp
          walk_at "go"
          refine ⟨_, _, rfl, rfl, sG1, ?_⟩
          rw [bfold_take hw]
          show DQ FrQ _ d (bfrm _ z r)
          rw [← hbl]
          exact ⟨_, hk1, kq1⟩
    · rintro σ G ⟨o2, o3, rfl, _, sG, dq⟩
      rw [hvl, List.take_length] at dq
      walk_at "go"
      exact q d G hd sG dq
set_option maxHeartbeats 0 in
theorem ok_are_least (T : Bl mg) (d : Df K mg "_law_are_least" s_are_least ["_law_moments", "_law_wishes"]  ) (o_alike : Okf P w K mg base k "_law_alike" ["_law_one", "_law_other"] spAlikeW) (o_steps : Okf P w K mg base k "_law_steps" ["_law_wishes"] spLSteps) (o_less : Okf P w K mg base k "_law_less" ["_law_one", "_law_other"] spLessW) (o_sum : Okf P w K mg base k "_law_sum" ["_law_one", "_law_other"] spSumW) (o_is_lowest : Okf P w K mg base k "_law_is_lowest" ["_law_found"] spIsLow) (o_base : Okf P w K mg base k "_law_base" ["_law_wishes"] spBaseW) : Okf P w K mg base (k + 1) "_law_are_least" ["_law_moments", "_law_wishes"] spLeastW := by
  refine Okf.of d sc_are_least (fun vs H Q E h => ?_) (fun f cdv A outer s H vs Q E hr h => ?_)
  · obtain ⟨d, l, ws, m, rfl, _⟩ := h
    rfl
  · obtain ⟨d, l, ws, m, rfl, ⟨kv, hk, kq⟩, hws, hok, hlen, hbl, hke, hb, hsat, hwk, hsz, q⟩ := h
    refine ⟨_, (@pss_cons _ _ _ _ _ (@ps_set _ _ (i := 2) _ _ _ _ sc_are_least.nd rfl (by first | exact Or.inl rfl | exact Or.inr rfl) (@pe_callO _ _ _ _ _ _ _ _ _ _ o_base hr rfl (@pa_cons _ _ _ _ _ (pv 1) (@pa_nil _) (by rfl)) (by decide) (by rfl) (by rfl)) (by rfl) (by first | exact .inl rfl | exact .inr rfl | assumption)) (@pss_cons _ _ _ _ _ (@ps_if _ _ _ _ _ _ _ _ (@PW.pt _ _ _ (@pw_or _ _ _ _ _ _ _ (@pt_not _ _ _ _ (@pt_val _ _ _ (@pe_callB _ _ _ _ _ _ _ _ _ (call_isTy (T := "dict")) rfl T.z_isinstance bt_isinstance (@pa_cons _ _ _ _ _ (pv 0) (@pa_cons _ _ _ _ _ (@pe_bltn _ _ (v := .ty "dict") _ _ rfl T.z_dict bt_dict rfl (by decide) (by decide)) (@pa_nil _) (by rfl)) (by rfl)) (by decide) (by decide) (by rfl) (by rfl)) (by intro _; rfl))) (@pw_or1 _ _ _ _ (@pt_cmpR _ _ _ _ _ _ _ _ (op_neA hr.units) (@pe_callB _ _ _ _ _ _ _ _ _ (call_sortS rfl) rfl T.z_sorted bt_sorted (@pa_cons _ _ _ _ _ (@pe_callTy _ _ _ _ _ _ _ _ _ (c_listD rfl) rfl T.z_list bt_list (@pa_cons _ _ _ _ _ (pv 0) (@pa_nil _) (by rfl)) (by decide) (by decide) (by rfl) (by rfl)) (@pa_nil _) (by rfl)) (by decide) (by decide) (by rfl) (by rfl)) (@pe_callB _ _ _ _ _ _ _ _ _ (call_sortS rfl) rfl T.z_sorted bt_sorted (@pa_cons _ _ _ _ _ (@pe_callTy _ _ _ _ _ _ _ _ _ (c_listD rfl) rfl T.z_list bt_list (@pa_cons _ _ _ _ _ (pv 2) (@pa_nil _) (by rfl)) (by decide) (by decide) (by rfl) (by rfl)) (@pa_nil _) (by rfl)) (by decide) (by decide) (by rfl) (by rfl)) (nomark _))))) (@pss_one _ _ _ (@ps_ret _ _ _ _ (@pe_bl _ _ _ _))) (@pss_nil _)) (@pss_cons _ _ _ _ _ (@ps_forD _ _ _ _ _ _ _ _ PassesOwn.never rfl (pv 2) (@pg_name _ _ (i := 3) _ sc_are_least.nd rfl (by first | exact Or.inl rfl | exact Or.inr rfl) (by first | exact .inl rfl | exact .inr rfl | assumption)) (@pss_one _ _ _ (@ps_if _ _ _ _ _ _ _ _ (@PW.pt _ _ _ (@pw_or _ _ _ _ _ _ _ (@pt_not _ _ _ _ (@pt_val _ _ _ (@pe_callO _ _ _ _ _ _ _ _ _ _ o_is_lowest hr rfl (@pa_cons _ _ _ _ _ (@pe_dget _ _ _ _ _ _ hr.u1 (pv 0) (pv 3) (fun _ _ => rfl)) (@pa_nil _) (by rfl)) (by decide) (by rfl) (by rfl)) (by intro _; rfl))) (@pw_or1 _ _ _ _ (@pt_val _ _ _ (@pe_callO _ _ _ _ _ _ _ _ _ _ o_less hr rfl (@pa_cons _ _ _ _ _ (@pe_dget _ _ _ _ _ _ hr.u1 (pv 0) (pv 3) (fun _ _ => rfl)) (@pa_cons _ _ _ _ _ (@pe_dget _ _ _ _ _ _ hr.u1 (pv 2) (pv 3) (fun _ _ => rfl)) (@pa_nil _) (by rfl)) (by rfl)) (by decide) (by rfl) (by rfl)) (by intro _; rfl))))) (@pss_one _ _ _ (@ps_ret _ _ _ _ (@pe_bl _ _ _ _))) (@pss_nil _))) (by intro _; rfl)) (@pss_cons _ _ _ _ _ (@ps_set _ _ (i := 4) _ _ _ _ sc_are_least.nd rfl (by first | exact Or.inl rfl | exact Or.inr rfl) (@pe_lst _ _ _ _ (@pa_nil _)) (by rfl) (by first | exact .inl rfl | exact .inr rfl | assumption)) (@pss_cons _ _ _ _ _ (@ps_for _ _ _ _ _ _ _ _ PassesOwn.never rfl (@pi_list _ _ _ _ (@pe_callO _ _ _ _ _ _ _ _ _ _ o_steps hr rfl (@pa_cons _ _ _ _ _ (pv 1) (@pa_nil _) (by rfl)) (by decide) (by rfl) (by rfl))) (@pg_tup _ _ _ _ _ (n := 4) rfl (@pgs_cons _ _ _ _ _ (@pg_name _ _ (i := 5) _ sc_are_least.nd rfl (by first | exact Or.inl rfl | exact Or.inr rfl) (by first | exact .inl rfl | exact .inr rfl | assumption)) (@pgs_cons _ _ _ _ _ (@pg_name _ _ (i := 6) _ sc_are_least.nd rfl (by first | exact Or.inl rfl | exact Or.inr rfl) (by first | exact .inl rfl | exact .inr rfl | assumption)) (@pgs_cons _ _ _ _ _ (@pg_name _ _ (i := 7) _ sc_are_least.nd rfl (by first | exact Or.inl rfl | exact Or.inr rfl) (by first | exact .inl rfl | exact .inr rfl | assumption)) (@pgs_cons _ _ _ _ _ (@pg_name _ _ (i := 8) _ sc_are_least.nd rfl (by first | exact Or.inl rfl | exact Or.inr rfl) (by first | exact .inl rfl | exact .inr rfl | assumption)) (@pgs_nil _) (by rfl)) (by rfl)) (by rfl)) (by rfl)) (by rfl) (by rfl)) (@pss_cons _ _ _ _ _ (@ps_set _ _ (i := 9) _ _ _ _ sc_are_least.nd rfl (by first | exact Or.inl rfl | exact Or.inr rfl) (@pe_callO _ _ _ _ _ _ _ _ _ _ o_sum hr rfl (@pa_cons _ _ _ _ _ (@pe_dget _ _ _ _ _ _ hr.u1 (pv 0) (pv 5) (fun _ _ => rfl)) (@pa_cons _ _ _ _ _ (pv 7) (@pa_nil _) (by rfl)) (by rfl)) (by decide) (by rfl) (by rfl)) (by rfl) (by first | exact .inl rfl | exact .inr rfl | assumption)) (@pss_cons _ _ _ _ _ (@ps_if _ _ _ _ _ _ _ _ (@pt_val _ _ _ (@pe_callO _ _ _ _ _ _ _ _ _ _ o_less hr rfl (@pa_cons _ _ _ _ _ (@pe_dget _ _ _ _ _ _ hr.u1 (pv 0) (pv 6) (fun _ _ => rfl)) (@pa_cons _ _ _ _ _ (pv 9) (@pa_nil _) (by rfl)) (by rfl)) (by decide) (by rfl) (by rfl)) (by intro _; rfl)) (@pss_one _ _ _ (@ps_ret _ _ _ _ (@pe_bl _ _ _ _))) (@pss_nil _)) (@pss_one _ _ _ (@ps_if _ _ _ _ _ _ _ _ (@pt_val _ _ _ (@pe_callO _ _ _ _ _ _ _ _ _ _ o_alike hr rfl (@pa_cons _ _ _ _ _ (@pe_dget _ _ _ _ _ _ hr.u1 (pv 0) (pv 6) (fun _ _ => rfl)) (@pa_cons _ _ _ _ _ (pv 9) (@pa_nil _) (by rfl)) (by rfl)) (by decide) (by rfl) (by rfl)) (by intro _; rfl)) (@pss_one _ _ _ (@ps_expr _ _ _ _ (@pe_bm _ _ _ _ _ _ _ _ _ _ _ _ PySem.F.plainAttrs_list PySem.F.slot_list_append PySem.F.type_list_append mt_append (pv 4) (@pa_cons _ _ _ _ _ (@pe_tup _ _ _ _ _ (@pa_cons _ _ _ _ _ (pv 5) (@pa_cons _ _ _ _ _ (pv 6) (@pa_nil _) (by rfl)) (by rfl))) (@pa_nil _) (by rfl)) (by rfl) (by rfl) (by rfl) (by rfl) (by rfl)) (by rfl))) (@pss_nil _))))) (by intro _; rfl)) (@pss_cons _ _ _ _ _ (@ps_set _ _ (i := 10) _ _ _ _ sc_are_least.nd rfl (by first | exact Or.inl rfl | exact Or.inr rfl) (@pe_compD _ _ _ _ _ _ _ _ _ _ _ _ _ _ (@comp_ck _ _ (sc := defScope s_are_least) (N := ["_law_moments", "_law_wishes", "_law_base_here", "_law_bell", "_law_tight", "_law_one", "_law_other", "_law_x", "_law_k", "_law_due", "_law_held", "_law_at"]) (tn := ["_law_bell"]) (names := ["_law_moments", "_law_base_here"]) (is := [0, 2]) rfl rfl (by decide +kernel) (by decide +kernel) rfl (by decide +kernel) rfl (by decide +kernel) (by decide +kernel) (by decide +kernel)) rfl (pv 2) (fun _ _ _ _ => (@pg_name _ _ (i := 0) _ (show (["_law_bell", "_law_moments", "_law_base_here"] : List Str).Nodup by decide +kernel) rfl (Or.inl rfl) (Or.inr rfl))) (fun _ _ _ _ => (pv 0)) (fun _ _ _ _ => (@pts_one _ _ _ (@pt_val _ _ _ (@pe_callO _ _ _ _ _ _ _ _ _ _ o_alike hr rfl (@pa_cons _ _ _ _ _ (@pe_dget _ _ _ _ _ _ hr.u1 (pv 1) (pv 0) (fun _ _ => rfl)) (@pa_cons _ _ _ _ _ (@pe_dget _ _ _ _ _ _ hr.u1 (pv 2) (pv 0) (fun _ _ => rfl)) (@pa_nil _) (by rfl)) (by rfl)) (by decide) (by rfl) (by rfl)) (by intro _; rfl)))) (by intro _; rfl)) (by rfl) (by first | exact .inl rfl | exact .inr rfl | assumption)) (@pss_cons _ _ _ _ _ (@ps_set _ _ (i := 11) _ _ _ _ sc_are_least.nd rfl (by first | exact Or.inl rfl | exact Or.inr rfl) (@pe_int _ _ _ _) (by rfl) (by first | exact .inl rfl | exact .inr rfl | assumption)) (@pss_cons _ _ _ _ _ (@ps_while _ _ _ _ _ _ PassesOwn.never (@pt_cmpR _ _ _ _ _ _ _ _ op_lt (pv 11) (@pe_callB _ _ _ _ _ _ _ _ _ c_len rfl T.z_len bt_len (@pa_cons _ _ _ _ _ (pv 10) (@pa_nil _) (by rfl)) (by decide) (by decide) (by rfl) (by rfl)) (nomark _)) (@pss_cons _ _ _ _ _ (@ps_set _ _ (i := 10) _ _ _ _ sc_are_least.nd rfl (by first | exact Or.inl rfl | exact Or.inr rfl) (@pe_op _ _ _ _ _ _ _ _ op_addA (pv 10) (@pe_callB _ _ _ _ _ _ _ _ _ (call_sortS rfl) rfl T.z_sorted bt_sorted (@pa_cons _ _ _ _ _ (@pe_callTy _ _ _ _ _ _ _ _ _ (call_setS rfl) rfl T.z_set bt_set (@pa_cons _ _ _ _ _ (@pe_comp _ _ _ _ _ _ _ _ _ _ _ _ _ _ (@comp_ck _ _ (sc := defScope s_are_least) (N := ["_law_moments", "_law_wishes", "_law_base_here", "_law_bell", "_law_tight", "_law_one", "_law_other", "_law_x", "_law_k", "_law_due", "_law_held", "_law_at"]) (tn := ["_law_one", "_law_other"]) (names := ["_law_held", "_law_at"]) (is := [10, 11]) rfl rfl (by decide +kernel) (by decide +kernel) rfl (by decide +kernel) rfl (by decide +kernel) (by decide +kernel) (by decide +kernel)) rfl (@pi_list _ _ _ _ (pv 4)) (fun _ _ _ _ => (@pg_tupc _ _ _ _ _ _ _ _ _ _ _ (n := 2) _ rfl (@pgs_cons _ _ _ _ _ (@pg_name _ _ (i := 0) _ (show (["_law_one", "_law_other", "_law_held", "_law_at"] : List Str).Nodup by decide +kernel) rfl (Or.inl rfl) (Or.inr rfl)) (@pgs_cons _ _ _ _ _ (@pg_name _ _ (i := 1) _ (show (["_law_one", "_law_other", "_law_held", "_law_at"] : List Str).Nodup by decide +kernel) rfl (Or.inl rfl) (Or.inr rfl)) (@pgs_nil _) (by rfl)) (by rfl)) (by rfl) (by rfl))) (fun _ _ _ _ => (pv 1)) (fun _ _ _ _ => (@pts_one _ _ _ (@PW.pt _ _ _ (@pw_and _ _ _ _ _ _ _ (@pt_cmpR _ _ _ _ _ _ _ _ (op_eqA hr.units) (pv 0) (@pe_ix _ _ _ _ _ _ _ ix_LTc (pv 2) (pv 3) (fun _ _ => rfl)) (nomark _)) (@pw_and1 _ _ _ _ (@pt_cmpR _ _ _ _ _ _ _ _ op_notIn_seqc (pv 1) (pv 2) (by with_unfolding_all rfl))))))) (by intro _; rfl)) (@pa_nil _) (by rfl)) (by decide) (by decide) (by rfl) (by rfl)) (@pa_nil _) (by rfl)) (by decide) (by decide) (by rfl) (by rfl))) (by rfl) (by first | exact .inl rfl | exact .inr rfl | assumption)) (@pss_one _ _ _ (@ps_set _ _ (i := 11) _ _ _ _ sc_are_least.nd rfl (by first | exact Or.inl rfl | exact Or.inr rfl) (@pe_op _ _ _ _ _ _ _ _ op_addA (pv 11) (@pe_int _ _ _ _)) (by rfl) (by first | exact .inl rfl | exact .inr rfl | assumption))))) (@pss_one _ _ _ (@ps_ret _ _ _ _ (@pe_cmpR _ _ _ _ _ _ _ _ (op_eqA hr.units) (@pe_callB _ _ _ _ _ _ _ _ _ c_len rfl T.z_len bt_len (@pa_cons _ _ _ _ _ (pv 10) (@pa_nil _) (by rfl)) (by decide) (by decide) (by rfl) (by rfl)) (@pe_callB _ _ _ _ _ _ _ _ _ c_lenD rfl T.z_len bt_len (@pa_cons _ _ _ _ _ (pv 2) (@pa_nil _) (by rfl)) (by decide) (by decide) (by rfl) (by rfl)) (nomark _)))))))))))), ?_⟩
    obtain ⟨KS, eK⟩ : ∃ L : List Str, (bfold ws).map (·.1) = L.map Sum.inr := keysS _ fun x hx => let ⟨s, e, _⟩ := (bfold_ok (Pk := fun _ => True) (Pv := Sz 8000) (by constructor <;> decide +kernel) ws fun x hx => ok_sz (hok x hx)).ks x hx; ⟨s, e⟩
    have bok := bfold_ok (Pk := fun _ => True) (Pv := Sz 8000) (by constructor <;> decide +kernel) ws fun x hx => ok_sz (hok x hx)
    have hKl : KS.length = List.length (α := Key × Rat) (bfold ws) := by
      have := congrArg List.length eK
      rw [List.length_map, List.length_map] at this
      exact this.symm
    have ndK : KS.Nodup := nd_inr (by rw [← eK]; exact bok.nd)
    walk_at "go"
    refine ⟨l, ws, rfl, hws, hok, hlen, fun d2 H1 hd2 s1 dq2 => ?_⟩
    obtain ⟨kv2, hk2, kq2⟩ := dq2
    have hne : d ≠ d2 := fun e => by rw [e, hd2] at hk; cases hk
    have hk1 := s1 _ _ hk
    have kq1 := kq.imp (R' := FrQ) (H' := H1) fun v b f => f.tk s1.tk
    walk_at "go"
    refine r_isTy (.dK hk1) kit_dict_dict ?_
    walk_at "go"
    refine ⟨d, kv, KS, rfl, hk1, (kq.keys.trans hke).trans eK, fun l1 hl1 => ?_⟩
    walk_at "go"
    refine ⟨l1, KS, rfl, .inr (.inl upd_same), by omega, fun l2 z1 hl2 p1 t1 => ?_⟩
    walk_at "go"
    refine ⟨d2, kv2, KS, rfl, upd_old hl2 (upd_old hl1 hk2), kq2.keys.trans eK, fun l3 hl3 => ?_⟩
    walk_at "go"
    refine ⟨l3, KS, rfl, .inr (.inl upd_same), by omega, fun l4 z2 hl4 p2 t2 => ?_⟩
    have ez : z2 = z1 := sorted_uniq t2 t1 (p2.trans p1.symm)
    subst ez
    walk_at "go"
    refine n_lst (ds := z2.map Dt.str) (es := z2.map Dt.str) (den_strs (upd_old hl4 (upd_old hl3 upd_same))) (den_strs upd_same) (dep_strs _) ?_
    rw [deq_strs]
    walk_at "go"
    have sA : Same H1 (upd (upd (upd (upd H1 l1 (.lst (KS.map V.str))) l2 (.lst (z2.map V.str))) l3 (.lst (KS.map V.str))) l4 (.lst (z2.map V.str))) := (((Same.new hl1).trans (Same.new hl2)).trans (Same.new hl3)).trans (Same.new hl4)
    generalize upd (upd (upd (upd H1 l1 (.lst (KS.map V.str))) l2 (.lst (z2.map V.str))) l3 (.lst (KS.map V.str))) l4 (.lst (z2.map V.str)) = H2 at sA ⊢
    clear hl1 hl2 hl3 hl4 t1 t2 p1 p2
    have g1 := sA _ _ hk1
    have g2 := sA _ _ hk2
    have s2 := s1.trans sA
    refine r_forD d2 (NoFrz.dK g2) ?_
    walk_at "go"
    refine ⟨rfl, kv2, g2, fun o => ?_⟩
    have tkf : TK H2 (upd H2 d2 (.frz o (.dK kv2))) := TK.dic g2
    have g1f : upd H2 d2 (.frz o (.dK kv2)) d = some (.dK kv) := upd_not hne g1
    have hfz : upd H2 d2 (.frz o (.dK kv2)) d2 = some (.frz o (.dK kv2)) := upd_same
    have hks : ∀ y, y ∈ KS → (Sum.inr y : Key) ∈ (bfold ws).map (·.1) := fun y hy => by rw [eK]; exact List.mem_map.mpr ⟨y, hy, rfl⟩
    have val1 : ∀ y ∈ KS, _ := fun y hy => mval kq1 (by rw [hke]; exact hks y hy) hsz
    have val2 : ∀ y ∈ KS, _ := fun y hy => mval kq2 (hks y hy) bok.vs
    have M : ∀ {i j : Int}, Sm 8000 i → Sm 8000 j → CMulB i j := fun h1 h2 => CMulB.s h1 h2 (by decide) (by decide)
    have back : ∀ G, Same (upd H2 d2 (.frz o (.dK kv2))) G → Same H2 (melt d2 G) := fun G s => melt_same g2 s
    generalize upd H2 d2 (.frz o (.dK kv2)) = HF at tkf g1f hfz back ⊢
    refine r_forDk (fun i σ G => Same HF G ∧ ∃ o3, σ = [some (.ref d), some (.ref l), some (.ref d2), o3, none, none, none, none, none, none, none, none]) ⟨Same.refl _, _, rfl⟩ ?_ ?_ ?_
    · rintro i σ G _ ⟨sG, _⟩
      exact sG _ _ hfz
    · rintro i c v σ G hx ⟨sG, o3, rfl⟩
      obtain ⟨y, hym, rfl⟩ : ∃ y ∈ KS, c = Sum.inr y := by
        have : c ∈ kv2.map (·.1) := List.mem_map.mpr ⟨(c, v), List.mem_of_getElem? hx, rfl⟩
        rw [kq2.keys, eK] at this
        obtain ⟨y, hy, e⟩ := List.mem_map.mp this
        exact ⟨y, hy, e.symm⟩
      obtain ⟨p1, e1, h1, zz1⟩ := val1 y hym
      obtain ⟨p2, e2, h2, zz2⟩ := val2 y hym
      have tkG : TK H1 G := sA.tk.trans (tkf.trans sG.tk)
      have h1G := tkG _ _ h1
      have h2G := tkG _ _ h2
      walk_at "go"
      refine r_dGk (.inl (sG _ _ g1f)) e1 ?_
      walk_at "go"
      refine ⟨_, _, rfl, ⟨p1, rfl, h1G⟩, zz1, fun G2 sG2 => ?_⟩
      walk_at "go"
      refine r_dGk (.inl (sG2 _ _ (sG _ _ g1f))) e1 ?_
      walk_at "go"
      refine r_dGk (.inr ⟨_, sG2 _ _ (sG _ _ hfz)⟩) e2 ?_
      walk_at "go"
      refine ⟨p1, p2, _, _, _, _, rfl, sG2 _ _ h1G, sG2 _ _ h2G, M zz1.sm.1 zz2.sm.2, M zz2.sm.1 zz1.sm.2, ?_⟩
      rw [less_iff, decide_eq_false (Rat.not_lt.mpr (hb y))]
      walk_at "go"
      exact ⟨sG.trans sG2, _, rfl⟩
    · rintro σ G ⟨sG, o3, rfl⟩
      refine r_dmN ?_
      have s3 := s2.trans (back G sG)
      have s13 : Same H1 (melt d2 G) := sA.trans (back G sG)
      clear back sG hfz g1f tkf
      generalize melt d2 G = H3 at s3 s13 ⊢
      walk_at "go"
      refine r_lstK fun lt hlt => ?_
      have sl := Same.new (H := H3) (o := .lst []) hlt
      have hlt0 := upd_same (H := H3) (a := lt) (o := .lst [])
      generalize upd H3 lt (.lst []) = H3' at sl hlt0 ⊢
      walk_at "go"
      refine ⟨l, ws, rfl, hws.keep (s3.trans sl) fun h => h.tk (s3.trans sl).tk, by omega, fun ls H4 hls s4 hS => ?_⟩
      obtain ⟨vst, hvs, pst⟩ := hS
      have hlt4 := s4 _ _ hlt0
      have s34 := sl.trans s4
      have hltls : lt ≠ ls := fun e => by rw [← e, hlt0] at hls; cases hls
      clear hls hlt0 s4 sl
      have hSK : ∀ st ∈ stepsOf ws, st.1 ∈ KS ∧ st.2.1 ∈ KS := fun st hst => by
        obtain ⟨w', hw', j, hj⟩ := stepsFrom_mem hst
        have hb2 := stepsBy_bells hj
        have mk : ∀ s, s ∈ w'.bells → s ∈ KS := fun s hs => by
          obtain ⟨q0, e⟩ := bfold_has hw' hs
          have h1 : (Sum.inr s : Key) ∈ (bfold ws).map (·.1) := List.mem_map.mpr ⟨_, aget_mem e, rfl⟩
          rw [eK] at h1
          obtain ⟨s', h2, e2⟩ := List.mem_map.mp h1
          cases e2
          exact h2
        exact ⟨mk _ hb2.1, mk _ hb2.2⟩
      have hSz : ∀ st ∈ stepsOf ws, Sz 8000 st.2.2.1 := fun st hst => by
        obtain ⟨w', hw', j, hj⟩ := stepsFrom_mem hst
        exact stepsBy_sz (hok w' hw') hj
      have hSl : (stepsOf ws).length ≤ 400 := by
        have := steps_len ws
        omega
      have hvl : vst.length = (stepsOf ws).length := Paired.length pst
      refine r_listK (SqL.of hvs) ?_
      refine r_forL (xs := vst) (fun i σ G => ∃ o5 o6 o7 o8 o9 T, σ = [some (.ref d), some (.ref l), some (.ref d2), o3, some (.ref lt), o5, o6, o7, o8, o9, none, none] ∧ Kp lt H4 G ∧ LQ PrQ G lt T ∧ T.length ≤ i ∧ (∀ p ∈ T, p.2 ∈ KS) ∧ ∀ j st, j < i → (stepsOf ws)[j]? = some st → mfun m st.2.1 = mfun m st.1 + st.2.2.1 → (st.1, st.2.1) ∈ T) ⟨_, _, _, _, _, [], rfl, Kp.refl _ _, ⟨_, hlt4, .nil⟩, Nat.le_refl _, fun _ h => (nomatch h), fun j st h => absurd h (Nat.not_lt_zero _)⟩ ?_ ?_ ?_
      · rintro i σ G _ ⟨o5, o6, o7, o8, o9, T, rfl, kG, _⟩
        exact SqL.of (kG _ _ (Ne.symm hltls) hvs)
      · rintro i x σ G hx ⟨o5, o6, o7, o8, o9, T, rfl, kG, ⟨vt, hvt, pt⟩, hTl, hTK, hT⟩
        have hil := (List.getElem?_eq_some_iff.mp hx).1
        obtain ⟨st, hst, qst⟩ := Paired.at pst hx
        obtain ⟨p, t, rfl, hp, pf, rfl, hpf⟩ := qst
        have hstm := List.mem_of_getElem? hst
        have tkG : TK H4 G := fun a xs h => kG _ _ (fun e => by rw [e, hlt4] at h; cases h) h
        have tk1 : TK H1 G := s13.tk.trans (s34.tk.trans tkG)
        have hpG := tkG _ _ hp
        have hpfG := tkG _ _ hpf
        obtain ⟨p1, e1, h1, zz1⟩ := val1 _ (hSK st hstm).1
        obtain ⟨p2, e2, h2, zz2⟩ := val1 _ (hSK st hstm).2
        have zr := hSz st hstm
        have hle := hsat st hstm
        have hKo := (hSK st hstm).2
        have hdG : G d = some (.dK kv) := kG _ _ (fun e => by rw [← e, s3 _ _ hk] at hlt; cases hlt) (s34 _ _ (s3 _ _ hk))
        have h1G := tk1 _ _ h1
        have h2G := tk1 _ _ h2
        have nxt : ∀ T' : List (Str × Str), (∀ p ∈ T, p ∈ T') → (mfun m st.2.1 = mfun m st.1 + st.2.2.1 → (st.1, st.2.1) ∈ T') → ∀ j s', j < i + 1 → (stepsOf ws)[j]? = some s' → mfun m s'.2.1 = mfun m s'.1 + s'.2.2.1 → (s'.1, s'.2.1) ∈ T' := fun T' hs ht j s' hj hs' e => by
          by_cases hji : j = i
          · subst hji
            rw [hst] at hs'
            cases hs'
            exact ht e
          · exact hs _ (hT j s' (by omega) hs' e)
        have es : Rat.divInt ((mfun m st.1).num * (st.2.2.1.den : Int) + st.2.2.1.num * ((mfun m st.1).den : Int)) (((mfun m st.1).den : Int) * (st.2.2.1.den : Int)) = mfun m st.1 + st.2.2.1 := by
          have d1 := (mfun m st.1).den_pos
          have d3 := st.2.2.1.den_pos
          have n1 : Rat.divInt (mfun m st.1).num (mfun m st.1).den = mfun m st.1 := Rat.num_divInt_den _
          have n2 : Rat.divInt st.2.2.1.num st.2.2.1.den = st.2.2.1 := Rat.num_divInt_den _
          rw [ratAdd (by omega) (by omega), n1, n2]
        have hD : 0 < ((mfun m st.1).den : Int) * (st.2.2.1.den : Int) := Int.mul_pos (by have := (mfun m st.1).den_pos; omega) (by have := st.2.2.1.den_pos; omega)
        have sN : Sm 16001 ((mfun m st.1).num * (st.2.2.1.den : Int) + st.2.2.1.num * ((mfun m st.1).den : Int)) := Sm.add (zz1.sm.1.mul zr.sm.2) (zr.sm.1.mul zz1.sm.2)
        have sD : Sm 16000 (((mfun m st.1).den : Int) * (st.2.2.1.den : Int)) := zz1.sm.2.mul zr.sm.2
        walk_at "go"
        refine r_dGs (.inl hdG) e1 ?_
        walk_at "go"
        refine ⟨p1, pf, _, _, _, _, 8000, rfl, h1G, hpfG, zz1.sm.1, zz1.sm.2, zr.sm.1, zr.sm.2, by decide, fun pd hpd => ?_⟩
        generalize ((mfun m st.1).num * (st.2.2.1.den : Int) + st.2.2.1.num * ((mfun m st.1).den : Int)) = N0 at es sN ⊢
        generalize (((mfun m st.1).den : Int) * (st.2.2.1.den : Int)) = D1 at es sD hD ⊢
        have sd := Same.new (H := G) (o := .tup [.int N0, .int D1]) hpd
        have hpd1 := upd_same (H := G) (a := pd) (o := .tup [.int N0, .int D1])
        generalize upd G pd (.tup [.int N0, .int D1]) = G1 at sd hpd1 ⊢
        have hdG1 := sd _ _ hdG
        have h2G1 := sd _ _ h2G
        have hvt1 := sd _ _ hvt
        walk_at "go"
        refine r_dGs (.inl hdG1) e2 ?_
        walk_at "go"
        refine ⟨p2, pd, _, _, _, _, rfl, h2G1, hpd1, CMulB.s zz2.sm.1 sD (by decide) (by decide), CMulB.s sN zz2.sm.2 (by decide) (by decide), ?_⟩
        rw [less_div hD, es, decide_eq_false (Rat.not_lt.mpr hle)]
        walk_at "go"
        refine r_dGs (.inl hdG1) e2 ?_
        walk_at "go"
        refine ⟨p2, pd, _, _, _, _, rfl, h2G1, hpd1, CMulB.s zz2.sm.1 sD (by decide) (by decide), CMulB.s sN zz2.sm.2 (by decide) (by decide), ?_⟩
        rw [like_div hD, es]
        walk_at "go"
        refine i_d (fun c => ?_) (fun c => ?_)
        · walk_at "go"
          refine r_tupK fun pp hpp => ?_
          have sp := Same.new (H := G1) (o := .tup [.str st.1, .str st.2.1]) hpp
          have hpp1 := upd_same (H := G1) (a := pp) (o := .tup [.str st.1, .str st.2.1])
          generalize upd G1 pp (.tup [.str st.1, .str st.2.1]) = G2 at sp hpp1 ⊢
          have hvt2 := sp _ _ (sd _ _ hvt)
          walk_at "go"
          refine r_app hvt2 (by have := Paired.length pt; omega) ?_
          have tkl : TK G2 (upd G2 lt (.lst (vt ++ [.ref pp]))) := TK.lst hvt2
          walk_at "go"
          refine ⟨_, _, _, _, _, T ++ [(st.1, st.2.1)], rfl, ((kG.trans sd.kp).trans sp.kp).trans Kp.upd, ⟨_, upd_same, Pd.snoc (Pd.imp pt fun v b h => h.tk (sd.tk.trans (sp.tk.trans tkl))) ⟨pp, rfl, tkl _ _ hpp1⟩⟩, by rw [List.length_append]; simp; omega, fun x hx => ?_, nxt _ (fun x hx => List.mem_append.mpr (.inl hx)) fun _ => List.mem_append.mpr (.inr (List.mem_singleton.mpr rfl))⟩
          rcases List.mem_append.mp hx with h | h
          · exact hTK x h
          · cases List.mem_singleton.mp h
            exact hKo
        · walk_at "go"
          exact ⟨_, _, _, _, _, T, rfl, kG.trans sd.kp, ⟨vt, sd _ _ hvt, Pd.imp pt fun v b h => h.tk sd.tk⟩, by omega, hTK, nxt T (fun x hx => hx) fun e => absurd e c⟩
      · rintro σ G ⟨o5, o6, o7, o8, o9, T, rfl, kG, ⟨vt, hvt, pt⟩, hTl, hTK, hT⟩
        rw [hvl] at hTl hT
        have hT' : ∀ st ∈ stepsOf ws, mfun m st.2.1 = mfun m st.1 + st.2.2.1 → (st.1, st.2.1) ∈ T := fun st hst e => by
          obtain ⟨j, hj, ej⟩ := List.getElem_of_mem hst
          exact hT j st hj (by rw [List.getElem?_eq_getElem hj, ej]) e
        have sG : Same H3 G := Kp.sm kG s34 hlt
        have tk1 : TK H1 G := s13.tk.trans sG.tk
        have gd : G d = some (.dK kv) := sG _ _ (s3 _ _ hk)
        have gd2 : G d2 = some (.dK kv2) := sG _ _ (s13 _ _ hk2)
        have s0G : Same H G := s3.trans sG
        clear kG s34 hlt4 hvs pst hT hltls sG hlt
        have hk2l : kv2.length = KS.length := by rw [hKl]; exact kq2.len
        walk_at "go"
        refine r_compD d2 (NoFrz.dK gd2) ?_
        walk_at "go"
        refine ⟨rfl, kv2, gd2, fun o' => ?_⟩
        have tkF : TK G (upd G d2 (.frz o' (.dK kv2))) := TK.dic gd2
        have gdF : upd G d2 (.frz o' (.dK kv2)) d = some (.dK kv) := upd_not hne gd
        have hfz : upd G d2 (.frz o' (.dK kv2)) d2 = some (.frz o' (.dK kv2)) := upd_same
        have back : ∀ G', Same (upd G d2 (.frz o' (.dK kv2))) G' → Same G (melt d2 G') := fun G s => melt_same gd2 s
        generalize upd G d2 (.frz o' (.dK kv2)) = HF at tkF gdF hfz back ⊢
        refine r_compDT (by omega) (fun acc i ys G1 => Kp acc HF G1 ∧ ys = ((KS.take i).filter fun y => decide (mfun m y = mfun (bfold ws) y)).map V.str) (fun acc h => ⟨Kp.new h, rfl⟩) ?_ ?_ ?_
        · intro acc i ys G1 hacc _ ⟨kp, _⟩
          exact kp _ _ (ne_of_none hfz hacc) hfz
        · intro acc i ys G1 k0 v0 hacc hx hyl hG1 ⟨kp, e⟩
          obtain ⟨y, hy, rfl⟩ : ∃ y, KS[i]? = some y ∧ k0 = Sum.inr y := by
            have h0 : (kv2.map (·.1))[i]? = some k0 := by rw [List.getElem?_map, hx]; rfl
            rw [kq2.keys, eK, List.getElem?_map] at h0
            cases hy : KS[i]? with
            | none => rw [hy] at h0; cases h0
            | some y => rw [hy] at h0; exact ⟨y, rfl, (Option.some.inj h0).symm⟩
          have hi : i < KS.length := (List.getElem?_eq_some_iff.mp hy).1
          have e2 : KS[i] = y := (List.getElem?_eq_some_iff.mp hy).2
          have hym : y ∈ KS := List.mem_of_getElem? hy
          obtain ⟨p1, e1, h1, zz1⟩ := val1 y hym
          obtain ⟨p2, e3, h2, zz2⟩ := val2 y hym
          have sF1 : Same HF G1 := fun b o h => kp _ _ (ne_of_none h hacc) h
          have h1G := sF1 _ _ (tkF _ _ (tk1 _ _ h1))
          have h2G := sF1 _ _ (tkF _ _ (tk1 _ _ h2))
          walk_at "go"
          refine r_dGk (.inl (sF1 _ _ gdF)) e1 ?_
          walk_at "go"
          refine r_dGk (.inr ⟨_, sF1 _ _ hfz⟩) e3 ?_
          walk_at "go"
          refine ⟨p1, p2, _, _, _, _, rfl, h1G, h2G, M zz1.sm.1 zz2.sm.2, M zz2.sm.1 zz1.sm.2, ?_⟩
          rw [like_iff]
          walk_at "go"
          refine i_d (fun c => ?_) (fun c => ?_)
          · walk_at "go"
            refine f_next (by omega) hyl hG1 ⟨Kp.trans kp Kp.upd, ?_⟩
            rw [List.take_succ_eq_append_getElem hi, List.filter_append, List.map_append, ← e, e2, List.filter_cons, decide_eq_true c]
            rfl
          · refine f_skip (by omega) hyl hG1 ⟨kp, ?_⟩
            rw [List.take_succ_eq_append_getElem hi, List.filter_append, List.map_append, ← e, e2, List.filter_cons, decide_eq_false c]
            simp
        · intro la0 ys G1 hacc hG1 hyl ⟨kp, e⟩
          rw [hk2l, List.take_length] at e
          subst e
          have sF1 : Same HF G1 := fun b o h => kp _ _ (ne_of_none h hacc) h
          have sM := back G1 sF1
          have hla0 : melt d2 G1 la0 = some (.lst ((KS.filter fun y => decide (mfun m y = mfun (bfold ws) y)).map V.str)) := melt_old (fun _ _ z => nomatch z) hG1
          clear back sF1 hG1 hyl kp hacc tkF gdF hfz
          generalize hB : (KS.filter fun y => decide (mfun m y = mfun (bfold ws) y)) = B at hla0
          generalize melt d2 G1 = H5 at sM hla0 ⊢
          have hI0 : HldI KS T B B 0 := ⟨by rw [← hB]; exact ndK.sublist List.filter_sublist, fun s hs => by rw [← hB] at hs; exact (List.mem_filter.mp hs).1, fun s hs => hs, Nat.zero_le _, fun j z h => absurd h (Nat.not_lt_zero _)⟩
          have hBa : ∀ s ∈ KS, mfun m s = mfun (bfold ws) s → s ∈ B := fun s hs e => by rw [← hB]; exact List.mem_filter.mpr ⟨hs, decide_eq_true e⟩
          clear hB
          have hvt5 := sM _ _ hvt
          have pt5 := Pd.imp pt fun v b (h : PrQ G v b) => h.tk sM.tk
          have gd5 := sM _ _ gd2
          have s05 := s0G.trans sM
          clear hvt pt
          walk_at "go"
          refine r_while (fun σ F => ∃ (la : Addr) (L : List Str) (i : Nat), σ = [some (.ref d), some (.ref l), some (.ref d2), o3, some (.ref lt), o5, o6, o7, o8, o9, some (.ref la), some (.int ((i : Nat) : Int))] ∧ Same H5 F ∧ F la = some (.lst (L.map V.str)) ∧ HldI KS T B L i) (fun σ _ => match σ with | [_, _, _, _, _, _, _, _, _, _, _, some (.int j)] => KS.length - j.toNat | _ => 0) ⟨la0, B, 0, rfl, Same.refl _, hla0, hI0⟩ ?_
          rintro σ F ⟨la, L, i, rfl, sF, hla, hI⟩
          have hLK := hI.len
          walk_at "go"
          rw [List.length_map]
          refine i_d (fun c => ?_) (fun c => ?_)
          · have hiL : i < L.length := by omega
            obtain ⟨z, hz⟩ : ∃ z, L[i]? = some z := ⟨L[i], List.getElem?_eq_getElem hiL⟩
            have hvF := sF _ _ hvt5
            have hvl2 : vt.length = T.length := Paired.length pt5
            refine ⟨fun σ' F' => ∃ (la' : Addr) (L' : List Str), σ' = [some (.ref d), some (.ref l), some (.ref d2), o3, some (.ref lt), o5, o6, o7, o8, o9, some (.ref la'), some (.int ((i + 1 : Nat) : Int))] ∧ Same H5 F' ∧ F' la' = some (.lst (L'.map V.str)) ∧ HldI KS T B L' (i + 1), ?_, ?_⟩
            · rintro σ' F' ⟨la', L', rfl, sF', hla', hI'⟩
              refine ⟨_, ?_, rfl, la', L', i + 1, rfl, sF', hla', hI'⟩
              show KS.length - (((i + 1 : Nat) : Int)).toNat < KS.length - ((i : Nat) : Int).toNat
              omega
            walk_at "go"
            refine r_listK (SqL.of hvF) ?_
            refine r_compPT (xs := vt) (by omega) (fun acc j ys F1 => Kp acc F F1 ∧ ys = (((T.take j).filter fun p => decide (p.1 = z) && !decide (p.2 ∈ L)).map (·.2)).map V.str) (fun acc h => ⟨Kp.new h, rfl⟩) ?_ ?_ ?_
            · intro acc j ys F1 hacc _ ⟨kp, _⟩
              exact SqL.of (kp _ _ (ne_of_none hvF hacc) hvF)
            · intro acc j ys F1 x hacc hx hyl hF1 ⟨kp, e⟩
              obtain ⟨pr, hpr, a, rfl, ha⟩ := Paired.at pt5 hx
              have hj : j < T.length := (List.getElem?_eq_some_iff.mp hpr).1
              have e2 : T[j] = pr := (List.getElem?_eq_some_iff.mp hpr).2
              have sF1 : Same F F1 := fun b o h => kp _ _ (ne_of_none h hacc) h
              have hla1 := sF1 _ _ hla
              refine ⟨a, _, _, rfl, sF1 _ _ (sF _ _ ha), ?_⟩
              have eat : atI (L.map V.str) ((i : Nat) : Int) = some (V.str z) := atI_nat (by rw [List.getElem?_map, hz]; rfl)
              have skp : (decide (pr.1 = z) && !decide (pr.2 ∈ L)) = false → fSkip vt.length acc (fun j ys F1 => Kp acc F F1 ∧ ys = (((T.take j).filter fun p => decide (p.1 = z) && !decide (p.2 ∈ L)).map (·.2)).map V.str) ys j F1 := fun hc => by
                refine f_skip (by omega) hyl hF1 ⟨kp, ?_⟩
                rw [List.take_succ_eq_append_getElem hj, List.filter_append, List.map_append, List.map_append, ← e, e2, List.filter_cons, hc]
                simp
              walk_at "go"
              refine r_ixl hla1 eat ?_
              walk_at "go"
              refine i_d (fun c1 => ?_) (fun c1 => ?_)
              · walk_at "go"
                refine r_ninS hla1 ?_
                walk_at "go"
                by_cases c2 : pr.2 ∈ L
                · rw [decide_eq_true c2]
                  exact skp (by rw [decide_eq_true c2, Bool.not_true, Bool.and_false])
                · rw [decide_eq_false c2]
                  walk_at "go"
                  refine f_next (by omega) hyl hF1 ⟨Kp.trans kp Kp.upd, ?_⟩
                  rw [List.take_succ_eq_append_getElem hj, List.filter_append, List.map_append, List.map_append, ← e, e2, List.filter_cons, decide_eq_true c1, decide_eq_false c2]
                  rfl
              · exact skp (by rw [decide_eq_false c1, Bool.false_and])
            · intro a7 ys F1 hacc hF1 hyl ⟨kp, e⟩
              rw [hvl2, List.take_length] at e
              subst e
              have sF1 : Same F F1 := fun b o h => kp _ _ (ne_of_none h hacc) h
              have hla1 := sF1 _ _ hla
              have memW : ∀ y, y ∈ ((T.filter fun p => decide (p.1 = z) && !decide (p.2 ∈ L)).map (·.2)) ↔ ∃ p ∈ T, p.1 = z ∧ p.2 = y ∧ y ∉ L := fun y => by
                constructor
                · intro h
                  obtain ⟨p, hp, rfl⟩ := List.mem_map.mp h
                  obtain ⟨h1, h2⟩ := List.mem_filter.mp hp
                  rw [Bool.and_eq_true] at h2
                  exact ⟨p, h1, of_decide_eq_true h2.1, rfl, by simpa using h2.2⟩
                · rintro ⟨p, h1, h2, rfl, h3⟩
                  exact List.mem_map.mpr ⟨p, List.mem_filter.mpr ⟨h1, by rw [decide_eq_true h2, decide_eq_false h3]; rfl⟩, rfl⟩
              have hWl : ((T.filter fun p => decide (p.1 = z) && !decide (p.2 ∈ L)).map (·.2)).length ≤ 400 := by
                rw [List.length_map]
                have := List.length_filter_le (fun p => decide (p.1 = z) && !decide (p.2 ∈ L)) T
                omega
              generalize ((T.filter fun p => decide (p.1 = z) && !decide (p.2 ∈ L)).map (·.2)) = W at *
              walk_at "go"
              refine ⟨a7, W, rfl, hF1, by omega, fun a8 zs h8 nd8 mem8 => ?_⟩
              have hzl : zs.length ≤ KS.length := nd8.length_le_of_subset fun s hs => by
                obtain ⟨p, hp, _, rfl, _⟩ := (memW s).mp ((mem8 s).mp hs)
                exact hTK p hp
              walk_at "go"
              refine ⟨a8, zs, rfl, .inl upd_same, by omega, fun a9 us h9 pm9 sr9 => ?_⟩
              have hul := pm9.length_eq
              walk_at "go"
              refine a_lst (upd_old h9 (upd_old h8 hla1)) upd_same (by rw [List.length_map, List.length_map]; omega) fun la' hla' => ?_
              walk_at "go"
              refine ⟨la', L ++ us, rfl, fun b o h => upd_old hla' (upd_old h9 (upd_old h8 (sF1 _ _ (sF _ _ h)))), ?_, hI.step hTK hz (pm9.nodup_iff.mpr nd8) fun y => ((pm9.mem_iff).trans (mem8 y)).trans (memW y)⟩
              rw [List.map_append]
              exact upd_same
          · have hi : i = L.length := by have := hI.le; omega
            have hcl := hI.closed (by omega)
            have hend := held_all hsat hb hwk (fun s hs e => hI.bs s (hBa s hs e)) hT' (fun st hst => (hSK st hst).1) hcl ndK hI.nd hI.sub
            walk_at "go"
            refine r_lenDk (sF _ _ gd5) ?_
            walk_at "go"
            rw [List.length_map, hk2l, hend, decide_eq_true rfl]
            exact q _ (s05.trans sF)
set_option maxHeartbeats 0 in
theorem ok_is_ring (T : Bl mg) (d : Df K mg "_law_is_ring" s_is_ring ["_law_ring", "_law_wishes"]  ) (o_sum : Okf P w K mg base k "_law_sum" ["_law_one", "_law_other"] spSumW) (o_steps : Okf P w K mg base k "_law_steps" ["_law_wishes"] spLSteps) : Okf P w K mg base (k + 1) "_law_is_ring" ["_law_ring", "_law_wishes"] spIsRing := by
  refine Okf.of d sc_is_ring (fun vs H Q E h => ?_) (fun f cdv A outer s H vs Q E hr h => ?_)
  · obtain ⟨lr, lw, ws, R, rfl, _⟩ := h
    rfl
  · obtain ⟨lr, lw, ws, R, rfl, ⟨vr, hvr, pvr⟩, hws, hlen, rok, hRl, hsz, q⟩ := h
    refine ⟨_, (@pss_cons _ _ _ _ _ (@ps_set _ _ (i := 2) _ _ _ _ sc_is_ring.nd rfl (by first | exact Or.inl rfl | exact Or.inr rfl) (@pe_callO _ _ _ _ _ _ _ _ _ _ o_steps hr rfl (@pa_cons _ _ _ _ _ (pv 1) (@pa_nil _) (by rfl)) (by decide) (by rfl) (by rfl)) (by rfl) (by first | exact .inl rfl | exact .inr rfl | assumption)) (@pss_cons _ _ _ _ _ (@ps_if _ _ _ _ _ _ _ _ (@PW.pt _ _ _ (@pw_or _ _ _ _ _ _ _ (@pt_not _ _ _ _ (@pt_val _ _ _ (@pe_callB _ _ _ _ _ _ _ _ _ (call_isTy (T := "list")) rfl T.z_isinstance bt_isinstance (@pa_cons _ _ _ _ _ (pv 0) (@pa_cons _ _ _ _ _ (@pe_bltn _ _ (v := .ty "list") _ _ rfl T.z_list bt_list rfl (by decide) (by decide)) (@pa_nil _) (by rfl)) (by rfl)) (by decide) (by decide) (by rfl) (by rfl)) (by intro _; rfl))) (@pw_or1 _ _ _ _ (@pt_cmpR _ _ _ _ _ _ _ _ (op_eqA hr.units) (pv 0) (@pe_lst _ _ _ _ (@pa_nil _)) (nomark _))))) (@pss_one _ _ _ (@ps_ret _ _ _ _ (@pe_bl _ _ _ _))) (@pss_nil _)) (@pss_cons _ _ _ _ _ (@ps_set _ _ (i := 3) _ _ _ _ sc_is_ring.nd rfl (by first | exact Or.inl rfl | exact Or.inr rfl) (@pe_tup _ _ _ _ _ (@pa_cons _ _ _ _ _ (@pe_int _ _ _ _) (@pa_cons _ _ _ _ _ (@pe_int _ _ _ _) (@pa_nil _) (by rfl)) (by rfl))) (by rfl) (by first | exact .inl rfl | exact .inr rfl | assumption)) (@pss_cons _ _ _ _ _ (@ps_set _ _ (i := 4) _ _ _ _ sc_is_ring.nd rfl (by first | exact Or.inl rfl | exact Or.inr rfl) (@pe_lst _ _ _ _ (@pa_nil _)) (by rfl) (by first | exact .inl rfl | exact .inr rfl | assumption)) (@pss_cons _ _ _ _ _ (@ps_for _ _ _ _ _ _ _ _ PassesOwn.never rfl (@pi_range1 _ _ _ _ _ _ rfl T.z_range (@pa_cons _ _ _ _ _ (@pe_callB _ _ _ _ _ _ _ _ _ c_len rfl T.z_len bt_len (@pa_cons _ _ _ _ _ (pv 0) (@pa_nil _) (by rfl)) (by decide) (by decide) (by rfl) (by rfl)) (@pa_nil _) (by rfl)) (by rfl)) (@pg_name _ _ (i := 5) _ sc_is_ring.nd rfl (by first | exact Or.inl rfl | exact Or.inr rfl) (by first | exact .inl rfl | exact .inr rfl | assumption)) (@pss_cons _ _ _ _ _ (@ps_if _ _ _ _ _ _ _ _ (@PW.pt _ _ _ (@pw_or _ _ _ _ _ _ _ (@pt_cmpR _ _ _ _ _ _ _ _ (op_notInD hr.units) (@pe_ix _ _ _ _ _ _ _ ix_LT (pv 0) (pv 5) (fun _ _ => rfl)) (pv 2) (by with_unfolding_all rfl)) (@pw_or _ _ _ _ _ _ _ (@pt_cmpR _ _ _ _ _ _ _ _ (op_neA hr.units) (@pe_ix _ _ _ _ _ _ _ ix_LT (@pe_ix _ _ _ _ _ _ _ ix_LT (pv 0) (pv 5) (fun _ _ => rfl)) (@pe_int _ _ _ _) (fun _ _ => rfl)) (@pe_ix _ _ _ _ _ _ _ ix_LT (@pe_ix _ _ _ _ _ _ _ ix_LT (pv 0) (@pe_op _ _ _ _ _ _ _ _ op_sub (pv 5) (@pe_int _ _ _ _)) (fun _ _ => rfl)) (@pe_int _ _ _ _) (fun _ _ => rfl)) (nomark _)) (@pw_or1 _ _ _ _ (@pt_cmpR _ _ _ _ _ _ _ _ op_in_seq (@pe_ix _ _ _ _ _ _ _ ix_LT (@pe_ix _ _ _ _ _ _ _ ix_LT (pv 0) (pv 5) (fun _ _ => rfl)) (@pe_int _ _ _ _) (fun _ _ => rfl)) (pv 4) (by with_unfolding_all rfl)))))) (@pss_one _ _ _ (@ps_ret _ _ _ _ (@pe_bl _ _ _ _))) (@pss_nil _)) (@pss_cons _ _ _ _ _ (@ps_set _ _ (i := 3) _ _ _ _ sc_is_ring.nd rfl (by first | exact Or.inl rfl | exact Or.inr rfl) (@pe_callO _ _ _ _ _ _ _ _ _ _ o_sum hr rfl (@pa_cons _ _ _ _ _ (pv 3) (@pa_cons _ _ _ _ _ (@pe_ix _ _ _ _ _ _ _ ix_LT (@pe_ix _ _ _ _ _ _ _ ix_LT (pv 0) (pv 5) (fun _ _ => rfl)) (@pe_int _ _ _ _) (fun _ _ => rfl)) (@pa_nil _) (by rfl)) (by rfl)) (by decide) (by rfl) (by rfl)) (by rfl) (by first | exact .inl rfl | exact .inr rfl | assumption)) (@pss_one _ _ _ (@ps_expr _ _ _ _ (@pe_bm _ _ _ _ _ _ _ _ _ _ _ _ PySem.F.plainAttrs_list PySem.F.slot_list_append PySem.F.type_list_append mt_append (pv 4) (@pa_cons _ _ _ _ _ (@pe_ix _ _ _ _ _ _ _ ix_LT (@pe_ix _ _ _ _ _ _ _ ix_LT (pv 0) (pv 5) (fun _ _ => rfl)) (@pe_int _ _ _ _) (fun _ _ => rfl)) (@pa_nil _) (by rfl)) (by rfl) (by rfl) (by rfl) (by rfl) (by rfl)) (by rfl))))) (by intro _; rfl)) (@pss_one _ _ _ (@ps_ret _ _ _ _ (@pe_cmpR _ _ _ _ _ _ _ _ op_gt (@pe_ix _ _ _ _ _ _ _ ix_LT (pv 3) (@pe_int _ _ _ _) (fun _ _ => rfl)) (@pe_int _ _ _ _) (nomark _))))))))), ?_⟩
    have hvl : vr.length = R.length := Paired.length pvr
    walk_at "go"
    refine ⟨lw, ws, rfl, hws, hlen, fun ls H1 hls s1 hS => ?_⟩
    obtain ⟨vs1, hvs1, pvs1⟩ := id hS
    have hvr1 := s1 _ _ hvr
    walk_at "go"
    refine r_isTy (.lst hvr1) kit_list_list ?_
    walk_at "go"
    refine r_lstK fun l0 g0 => ?_
    walk_at "go"
    have b0 := Same.new (H := H1) (o := .lst []) g0
    have pR : ∀ {G : Hp}, Same H G → Paired (StepQ G) vr R := fun s => Pd.imp pvr fun v b h => h.tk s.tk
    refine e_lst (ds := R.map dStep) (es := []) ⟨lr, _, rfl, b0 _ _ hvr1, den_of (fun v b h => h.den) (pR (s1.trans b0))⟩ ⟨l0, _, rfl, upd_same, rfl⟩ (depL_of dep_step R) ?_
    have hne : deqL (R.map dStep) [] = false := by
      cases hR : R with
      | nil => exact absurd hR rok.ne
      | cons x r => rfl
    rw [hne]
    have s01 := s1.trans b0
    have hvs0 := b0 _ _ hvs1
    have hvr0 := b0 _ _ hvr1
    have pS0 : Paired (StepQ (upd H1 l0 (.lst []))) vs1 (stepsOf ws) := Pd.imp pvs1 fun v b h => h.tk b0.tk
    generalize upd H1 l0 (.lst []) = H2 at s01 hvs0 hvr0 pS0 ⊢
    walk_at "go"
    refine r_tupK fun p0 gp0 => ?_
    walk_at "go"
    refine r_lstK fun le ge => ?_
    walk_at "go"
    refine r_rng1K (by omega) (by omega) ?_
    rw [show ((vr.length : Int)).toNat = R.length by omega]
    have b1 := Same.new (H := H2) (o := .tup [.int 0, .int 1]) gp0
    refine r_forR (n := R.length) (fun i σ G => ∃ pt A B' o5, σ = [some (.ref lr), some (.ref lw), some (.ref ls), some (.ref pt), some (.ref le), o5] ∧ Same H2 G ∧ G pt = some (.tup [.int A, .int B']) ∧ 0 < B' ∧ Rat.divInt A B' = ((R.take i).map (·.2.2.1)).sum ∧ Sm (1102 * (i + 1)) A ∧ Sm (1102 * (i + 1)) B' ∧ G le = some (.lst (((R.take i).map (·.2.1)).map V.str))) ⟨p0, 0, 1, _, rfl, b1.trans (Same.new ge), upd_old ge upd_same, by decide, (by rw [List.take_zero]; decide +kernel), Sm.mono (m := 1) (Sm.of (by decide) (by decide)) (by decide), Sm.mono (m := 1) (Sm.of (by decide) (by decide)) (by decide), upd_same⟩ ?_ ?_
    · rintro i σ G hi ⟨pt, A, B', o5, rfl, sG, hpt, hB', hsum, mA, mB, hle⟩
      have sGH := s01.trans sG
      have hvG := sG _ _ hvr0
      obtain ⟨st, hst⟩ : ∃ st, R[i]? = some st := ⟨_, List.getElem?_eq_getElem hi⟩
      obtain ⟨vi, hvi, qi⟩ := Pd.get (pR sGH) hst
      obtain ⟨p, t, rfl, hp, pf, rfl, hpf⟩ := id qi
      have ei : atI vr (0 + (i : Int)) = some (V.ref p) := by rw [Int.zero_add]; exact atI_nat hvi
      walk_at "go"
      refine r_ixl hvG ei ?_
      walk_at "go"
      refine ⟨ls, vs1, dStep st, (stepsOf ws).map dStep, rfl, sG _ _ hvs0, qi.den, den_of (fun v b h => h.den) (Pd.imp pS0 fun v b h => h.tk sG.tk), depL_of dep_step _, ?_⟩
      have hmem : ((stepsOf ws).map dStep).any (fun e => deq e (dStep st)) = true := List.any_eq_true.mpr ⟨dStep st, List.mem_map.mpr ⟨st, rok.sub st (List.mem_of_getElem? hst), rfl⟩, Den.same_eq _ _ qi.den qi.den⟩
      rw [hmem, show (if true = true then !true else true) = false from rfl]
      walk_at "go"
      refine r_ixl hvG ei ?_
      walk_at "go"
      obtain ⟨sp, vp, ep, qp, elink⟩ : ∃ sp vp, atI vr (0 + (i : Int) - 1) = some vp ∧ StepQ G vp sp ∧ st.1 = sp.2.1 := by
        cases i with
        | zero =>
          have hl : R.getLast? = some (R.getLast rok.ne) := List.getLast?_eq_some_getLast rok.ne
          have hlen1 : 0 < vr.length := by omega
          obtain ⟨ini, vl, ev⟩ : ∃ ini vl, vr = ini ++ [vl] := ⟨vr.dropLast, vr.getLast (by intro z; rw [z] at hlen1; simp at hlen1), (List.dropLast_concat_getLast _).symm⟩
          have hl2 : R[R.length - 1]? = some (R.getLast rok.ne) := by rw [← List.getLast?_eq_getElem?]; exact hl
          obtain ⟨v2, hv2, q2⟩ := Pd.get (pR sGH) hl2
          have e2 : vr[R.length - 1]? = some vl := by rw [← hvl, ← List.getLast?_eq_getElem?, ev, List.getLast?_concat]
          rw [e2] at hv2
          cases hv2
          refine ⟨_, vl, ?_, q2, rok.wrap st _ hst hl⟩
          rw [ev]
          exact atI_last _ _
        | succ j =>
          obtain ⟨s2, hs2⟩ : ∃ s2, R[j]? = some s2 := ⟨_, List.getElem?_eq_getElem (by omega)⟩
          obtain ⟨v2, hv2, q2⟩ := Pd.get (pR sGH) hs2
          refine ⟨s2, v2, ?_, q2, rok.link j (by omega) s2 st hs2 hst⟩
          rw [show (0 + ((j + 1 : Nat) : Int) - 1) = (j : Int) by omega]
          exact atI_nat hv2
      obtain ⟨pp, tp, rfl, hpp, fp⟩ := qp
      refine r_ixl hvG ep ?_
      walk_at "go"
      rw [elink]
      refine i_d (fun _ => ?_) (fun c => absurd rfl c)
      walk_at "go"
      refine r_ixl hvG ei ?_
      walk_at "go"
      refine r_inS hle ?_
      have hnin : st.2.1 ∉ (R.take i).map (·.2.1) := fun hm => by
        obtain ⟨x, hx, ex⟩ := List.mem_map.mp hm
        obtain ⟨j, hj⟩ := List.getElem?_of_mem hx
        have hj2 : j < i := by
          have := (List.getElem?_eq_some_iff.mp hj).1
          rw [List.length_take] at this
          omega
        rw [List.getElem?_take_of_lt hj2] at hj
        have e1 : (R.map (·.2.1))[j]? = some st.2.1 := by rw [List.getElem?_map, hj]; show some x.2.1 = _; rw [ex]
        have e2 : (R.map (·.2.1))[i]? = some st.2.1 := by rw [List.getElem?_map, hst]; rfl
        have h1 := (List.getElem?_eq_some_iff.mp e1)
        have h2 := (List.getElem?_eq_some_iff.mp e2)
        obtain ⟨h1a, h1b⟩ := h1
        obtain ⟨h2a, h2b⟩ := h2
        have := nd_at rok.nd h1a h2a (h1b.trans h2b.symm)
        omega
      rw [decide_eq_false hnin]
      walk_at "go"
      refine r_ixl hvG ei ?_
      walk_at "go"
      have zx := hsz st (List.mem_of_getElem? hst)
      have hd0 := st.2.2.1.den_pos
      have mx1 : Sm (1102 * (i + 1)) st.2.2.1.num := Sm.mono (m := 1100) zx.1 (by omega)
      have mx2 : Sm (1102 * (i + 1)) (st.2.2.1.den : Int) := Sm.mono (m := 1100) (by have := zx.2; unfold Sm; simpa using this) (by omega)
      refine ⟨pt, pf, A, B', _, _, 1102 * (i + 1), rfl, hpt, hpf, mA, mB, mx1, mx2, by omega, fun pn hpn => ?_⟩
      have bn := Same.new (H := G) (o := .tup [.int (A * (st.2.2.1.den : Int) + st.2.2.1.num * B'), .int (B' * (st.2.2.1.den : Int))]) hpn
      have hle2 := bn _ _ hle
      have hvG2 := bn _ _ hvG
      have hp2 := bn _ _ hp
      have hpn2 := upd_same (H := G) (a := pn) (o := .tup [.int (A * (st.2.2.1.den : Int) + st.2.2.1.num * B'), .int (B' * (st.2.2.1.den : Int))])
      generalize upd G pn (.tup [.int (A * (st.2.2.1.den : Int) + st.2.2.1.num * B'), .int (B' * (st.2.2.1.den : Int))]) = G2 at bn hle2 hvG2 hp2 hpn2 ⊢
      walk_at "go"
      refine r_ixl hvG2 ei ?_
      walk_at "go"
      refine r_app hle2 (by rw [List.length_map, List.length_map, List.length_take]; omega) ?_
      walk_at "go"
      have hlep : le ≠ pn := ne_of hle2 hpn2 (by intro z; cases z)
      have n1 : Sm 1100 st.2.2.1.num := zx.1
      have n2 : Sm 1100 (st.2.2.1.den : Int) := by have := zx.2; unfold Sm; simpa using this
      have eT : R.take (i + 1) = R.take i ++ [st] := by rw [List.take_succ_eq_append_getElem hi, (List.getElem?_eq_some_iff.mp hst).2]
      have hle0 : H2 le = none := b1.free ge
      have hden : (0 : Int) < (st.2.2.1.den : Int) := by omega
      have hpn3 : upd G2 le (.lst ((((R.take i).map (·.2.1)).map V.str) ++ [V.str st.2.1])) pn = some (.tup [.int (A * (st.2.2.1.den : Int) + st.2.2.1.num * B'), .int (B' * (st.2.2.1.den : Int))]) := by rw [upd_ne (Ne.symm hlep)]; exact hpn2
      refine ⟨pn, A * (st.2.2.1.den : Int) + st.2.2.1.num * B', B' * (st.2.2.1.den : Int), _, rfl, Kp.sm (Kp.upd (p := le)) (sG.trans bn) hle0, hpn3, Int.mul_pos hB' hden, ?_, ?_, ?_, ?_⟩
      · have hb0 : B' ≠ 0 := Ne.symm (Int.ne_of_lt hB')
        have hd0' : (st.2.2.1.den : Int) ≠ 0 := Ne.symm (Int.ne_of_lt hden)
        rw [ratAdd hb0 hd0', hsum, Rat.num_divInt_den, eT]
        exact (sum_snocX _ _).symm
      · have e1 : Sm (1102 * (i + 1) + 1100) (A * (st.2.2.1.den : Int)) := mA.mul n2
        have e2 : Sm (1102 * (i + 1) + 1100) (st.2.2.1.num * B') := Sm.mono (n1.mul mB) (by omega)
        exact Sm.mono (e1.add e2) (by omega)
      · have e1 : Sm (1102 * (i + 1) + 1100) (B' * (st.2.2.1.den : Int)) := mB.mul n2
        exact Sm.mono e1 (by omega)
      · rw [upd_same, eT, List.map_append, List.map_append]
        rfl
    · rintro σ G ⟨pt, A, B', o5, rfl, sG, hpt, hB', hsum, mA, mB, hle⟩
      rw [List.take_length] at hsum
      walk_at "go"
      have hA : 0 < A := ratPos hB' (by rw [hsum]; exact rok.pos)
      rw [decide_eq_true hA]
      exact q _ (s01.trans sG)
theorem ok_eased (T : Bl mg) (d : Df K mg "_law_eased" s_eased ["_law_wish_here", "_law_number_here"]  ) : Okf P w K mg base (k + 1) "_law_eased" ["_law_wish_here", "_law_number_here"] spEased := by
  refine Okf.of d sc_eased (fun vs H Q E h => ?_) (fun f cdv A outer s H vs Q E hr h => ?_)
  · obtain ⟨v, w0, n, rfl, _⟩ := h
    rfl
  · obtain ⟨v, w0, n, rfl, qw, ok, bd, q⟩ := h
    refine ⟨_, (@pss_cons _ _ _ _ _ (@ps_if _ _ _ _ _ _ _ _ (@PW.pt _ _ _ (@pw_and _ _ _ _ _ _ _ (@pt_cmpR _ _ _ _ _ _ _ _ (op_eqA hr.units) (@pe_ix _ _ _ _ _ _ _ ix_LT (pv 0) (@pe_int _ _ _ _) (fun _ _ => rfl)) (@pe_str _ _ _ _) (nomark _)) (@pw_and1 _ _ _ _ (@pt_cmpR _ _ _ _ _ _ _ _ op_gt (@pe_op _ _ _ _ _ _ _ _ op_mod (pv 1) (@pe_int _ _ _ _)) (@pe_int _ _ _ _) (nomark _))))) (@pss_one _ _ _ (@ps_ret _ _ _ _ (@pe_op _ _ _ _ _ _ _ _ op_addA (@pe_slice _ _ _ _ _ _ _ _ _ _ sl_any (pv 0) (@po_none _) (@po_some _ _ _ (@pe_int _ _ _ _))) (@pe_tup _ _ _ _ _ (@pa_cons _ _ _ _ _ (@pe_tup _ _ _ _ _ (@pa_cons _ _ _ _ _ (@pe_op _ _ _ _ _ _ _ _ op_sub (@pe_int _ _ _ _) (@pe_callB _ _ _ _ _ _ _ _ _ c_abs rfl T.z_abs bt_abs (@pa_cons _ _ _ _ _ (@pe_ix _ _ _ _ _ _ _ ix_LT (@pe_ix _ _ _ _ _ _ _ ix_LT (pv 0) (@pe_int _ _ _ _) (fun _ _ => rfl)) (@pe_int _ _ _ _) (fun _ _ => rfl)) (@pa_nil _) (by rfl)) (by decide) (by decide) (by rfl) (by rfl))) (@pa_cons _ _ _ _ _ (@pe_ix _ _ _ _ _ _ _ ix_LT (@pe_ix _ _ _ _ _ _ _ ix_LT (pv 0) (@pe_int _ _ _ _) (fun _ _ => rfl)) (@pe_int _ _ _ _) (fun _ _ => rfl)) (@pa_nil _) (by rfl)) (by rfl))) (@pa_nil _) (by rfl)))))) (@pss_nil _)) (@pss_cons _ _ _ _ _ (@ps_if _ _ _ _ _ _ _ _ (@PW.pt _ _ _ (@pw_and _ _ _ _ _ _ _ (@pt_cmpR _ _ _ _ _ _ _ _ (op_eqA hr.units) (@pe_ix _ _ _ _ _ _ _ ix_LT (pv 0) (@pe_int _ _ _ _) (fun _ _ => rfl)) (@pe_str _ _ _ _) (nomark _)) (@pw_and1 _ _ _ _ (@pt_cmpR _ _ _ _ _ _ _ _ op_gt (@pe_op _ _ _ _ _ _ _ _ op_mod (pv 1) (@pe_int _ _ _ _)) (@pe_int _ _ _ _) (nomark _))))) (@pss_one _ _ _ (@ps_ret _ _ _ _ (@pe_op _ _ _ _ _ _ _ _ op_addA (@pe_slice _ _ _ _ _ _ _ _ _ _ sl_any (pv 0) (@po_none _) (@po_some _ _ _ (@pe_int _ _ _ _))) (@pe_tup _ _ _ _ _ (@pa_cons _ _ _ _ _ (@pe_tup _ _ _ _ _ (@pa_cons _ _ _ _ _ (@pe_callB _ _ _ _ _ _ _ _ _ c_abs rfl T.z_abs bt_abs (@pa_cons _ _ _ _ _ (@pe_ix _ _ _ _ _ _ _ ix_LT (@pe_ix _ _ _ _ _ _ _ ix_LT (pv 0) (@pe_int _ _ _ _) (fun _ _ => rfl)) (@pe_int _ _ _ _) (fun _ _ => rfl)) (@pa_nil _) (by rfl)) (by decide) (by decide) (by rfl) (by rfl)) (@pa_cons _ _ _ _ _ (@pe_ix _ _ _ _ _ _ _ ix_LT (@pe_ix _ _ _ _ _ _ _ ix_LT (pv 0) (@pe_int _ _ _ _) (fun _ _ => rfl)) (@pe_int _ _ _ _) (fun _ _ => rfl)) (@pa_nil _) (by rfl)) (by rfl))) (@pa_nil _) (by rfl)))))) (@pss_nil _)) (@pss_one _ _ _ (@ps_ret _ _ _ _ (pv 0))))), ?_⟩
    cases w0 with
    | after z u r =>
      obtain ⟨p, t, rfl, hp, pf, rfl, hpf⟩ := id qw
      walk_at "go"
      refine i_d (fun _ => ?_) (fun c => absurd rfl c)
      walk_at "go"
      refine i_d (fun c => ?_) (fun c => ?_)
      · walk_at "go"
        refine s_tup hp (fun z => absurd z.2 (by show ¬ (3 : Nat) = 4; decide)) fun l1 hl1 => ?_
        walk_at "go"
        refine r_tupK fun l2 hl2 => ?_
        walk_at "go"
        refine r_tupK fun l3 hl3 => ?_
        walk_at "go"
        refine a_tup (upd_old hl3 (upd_old hl2 upd_same)) upd_same (by show 3 + 1 ≤ 1000; decide) (fun z => nomatch z) (fun z => nomatch z) fun l4 hl4 => ?_
        walk_at "go"
        have nd := dnR_nd r
        have bo := dnR_ok bd ok.2.2.2
        refine q _ (.after z u (dnR r)) _ (fun b o h => upd_old hl4 (upd_old hl3 (upd_old hl2 (upd_old hl1 h)))) ⟨l4, .ref l2, rfl, upd_same, l2, rfl, ?_⟩ ⟨ok.1, ok.2.1, ok.2.2.1, bo.2⟩ bo.1 rfl
        rw [nd.1, nd.2]
        exact upd_old hl4 (upd_old hl3 upd_same)
      · walk_at "go"
        refine i_d (fun c => absurd c (by decide +kernel)) (fun _ => ?_)
        rw [if_neg Bool.false_ne_true]
        walk_at "go"
        walk_at "go"
        exact q _ _ _ (Same.refl _) qw ok bd rfl
    | within z u r =>
      obtain ⟨p, t, rfl, hp, pf, rfl, hpf⟩ := id qw
      walk_at "go"
      refine i_d (fun c => absurd c (by decide +kernel)) (fun _ => ?_)
      rw [if_neg Bool.false_ne_true]
      walk_at "go"
      refine i_d (fun _ => ?_) (fun c => absurd rfl c)
      walk_at "go"
      refine i_d (fun c => ?_) (fun c => ?_)
      · walk_at "go"
        refine s_tup hp (fun z => absurd z.2 (by show ¬ (3 : Nat) = 4; decide)) fun l1 hl1 => ?_
        walk_at "go"
        refine r_tupK fun l2 hl2 => ?_
        walk_at "go"
        refine r_tupK fun l3 hl3 => ?_
        walk_at "go"
        refine a_tup (upd_old hl3 (upd_old hl2 upd_same)) upd_same (by show 3 + 1 ≤ 1000; decide) (fun z => nomatch z) (fun z => nomatch z) fun l4 hl4 => ?_
        walk_at "go"
        have nd := upR_nd r
        have bo := upR_ok bd ok.2.2.2
        refine q _ (.within z u (upR r)) _ (fun b o h => upd_old hl4 (upd_old hl3 (upd_old hl2 (upd_old hl1 h)))) ⟨l4, .ref l2, rfl, upd_same, l2, rfl, ?_⟩ ⟨ok.1, ok.2.1, ok.2.2.1, bo.2⟩ bo.1 rfl
        rw [nd.1, nd.2]
        exact upd_old hl4 (upd_old hl3 upd_same)
      · walk_at "go"
        exact q _ _ _ (Same.refl _) qw ok bd rfl
    | wit z u =>
      obtain ⟨p, rfl, hp⟩ := id qw
      walk_at "go"
      refine i_d (fun c => absurd c (by decide +kernel)) (fun _ => ?_)
      rw [if_neg Bool.false_ne_true]
      walk_at "go"
      refine i_d (fun c => absurd c (by decide +kernel)) (fun _ => ?_)
      rw [if_neg Bool.false_ne_true]
      walk_at "go"
      exact q _ _ _ (Same.refl _) qw ok bd rfl
    | frm z r =>
      obtain ⟨p, t, rfl, hp, f⟩ := id qw
      walk_at "go"
      refine i_d (fun c => absurd c (by decide +kernel)) (fun _ => ?_)
      rw [if_neg Bool.false_ne_true]
      walk_at "go"
      refine i_d (fun c => absurd c (by decide +kernel)) (fun _ => ?_)
      rw [if_neg Bool.false_ne_true]
      walk_at "go"
      exact q _ _ _ (Same.refl _) qw ok bd rfl
theorem ok_right (T : Bl mg) (d : Df K mg "_law_right" s_right ["_law_found", "_law_wishes"]  ) (o_are_least : Okf P w K mg base k "_law_are_least" ["_law_moments", "_law_wishes"] spLeastW) (o_is_ring : Okf P w K mg base k "_law_is_ring" ["_law_ring", "_law_wishes"] spIsRing) : Okf P w K mg base (k + 1) "_law_right" ["_law_found", "_law_wishes"] spRightW := by
  refine Okf.of d sc_right (fun vs H Q E h => ?_) (fun f cdv A outer s H vs Q E hr h => ?_)
  · obtain ⟨p, l, ws, a, t, rfl, _⟩ := h
    rfl
  · obtain ⟨p, l, ws, a, t, rfl, hp, h, q⟩ := h
    refine ⟨_, (@pss_cons _ _ _ _ _ (@ps_if _ _ _ _ _ _ _ _ (@PW.pt _ _ _ (@pw_or _ _ _ _ _ _ _ (@pt_not _ _ _ _ (@pt_val _ _ _ (@pe_callB _ _ _ _ _ _ _ _ _ (call_isTy (T := "tuple")) rfl T.z_isinstance bt_isinstance (@pa_cons _ _ _ _ _ (pv 0) (@pa_cons _ _ _ _ _ (@pe_bltn _ _ (v := .ty "tuple") _ _ rfl T.z_tuple bt_tuple rfl (by decide) (by decide)) (@pa_nil _) (by rfl)) (by rfl)) (by decide) (by decide) (by rfl) (by rfl)) (by intro _; rfl))) (@pw_or1 _ _ _ _ (@pt_cmpR _ _ _ _ _ _ _ _ (op_neA hr.units) (@pe_callB _ _ _ _ _ _ _ _ _ c_len rfl T.z_len bt_len (@pa_cons _ _ _ _ _ (pv 0) (@pa_nil _) (by rfl)) (by decide) (by decide) (by rfl) (by rfl)) (@pe_int _ _ _ _) (nomark _))))) (@pss_one _ _ _ (@ps_ret _ _ _ _ (@pe_bl _ _ _ _))) (@pss_nil _)) (@pss_cons _ _ _ _ _ (@ps_if _ _ _ _ _ _ _ _ (@pt_cmpR _ _ _ _ _ _ _ _ (op_eqA hr.units) (@pe_ix _ _ _ _ _ _ _ ix_LT (pv 0) (@pe_int _ _ _ _) (fun _ _ => rfl)) (@pe_str _ _ _ _) (nomark _)) (@pss_one _ _ _ (@ps_ret _ _ _ _ (@pe_callO _ _ _ _ _ _ _ _ _ _ o_is_ring hr rfl (@pa_cons _ _ _ _ _ (@pe_ix _ _ _ _ _ _ _ ix_LT (pv 0) (@pe_int _ _ _ _) (fun _ _ => rfl)) (@pa_cons _ _ _ _ _ (pv 1) (@pa_nil _) (by rfl)) (by rfl)) (by decide) (by rfl) (by rfl)))) (@pss_nil _)) (@pss_one _ _ _ (@ps_ret _ _ _ _ (@pe_and _ _ _ _ _ _ _ (@pe_cmpR _ _ _ _ _ _ _ _ (op_eqA hr.units) (@pe_ix _ _ _ _ _ _ _ ix_LT (pv 0) (@pe_int _ _ _ _) (fun _ _ => rfl)) (@pe_str _ _ _ _) (nomark _)) (@pe_one _ _ _ _ _ (@pe_callO _ _ _ _ _ _ _ _ _ _ o_are_least hr rfl (@pa_cons _ _ _ _ _ (@pe_ix _ _ _ _ _ _ _ ix_LT (pv 0) (@pe_int _ _ _ _) (fun _ _ => rfl)) (@pa_cons _ _ _ _ _ (pv 1) (@pa_nil _) (by rfl)) (by rfl)) (by decide) (by rfl) (by rfl)))))))), ?_⟩
    walk_at "go"
    refine r_isTy (.tup hp) kit_tuple_tuple ?_
    walk_at "go"
    refine i_d (fun _ => ?_) (fun c => absurd rfl c)
    rcases h with ⟨rfl, h⟩ | ⟨rfl, h⟩
    · walk_at "go"
      refine i_d (fun c => absurd c (by decide +kernel)) (fun _ => ?_)
      walk_at "go"
      refine i_d (fun _ => ?_) (fun c => absurd rfl c)
      walk_at "go"
      refine h _ fun H' s => ?_
      walk_at "go"
      exact q H' s
    · walk_at "go"
      refine i_d (fun _ => ?_) (fun c => absurd rfl c)
      walk_at "go"
      refine h _ fun H' s => ?_
      walk_at "go"
      exact q H' s
theorem ok_no_earlier (T : Bl mg) (d : Df K mg "_law_no_earlier" s_no_earlier ["_law_ahead", "_law_found"]  ) (o_less : Okf P w K mg base k "_law_less" ["_law_one", "_law_other"] spLessW) : Okf P w K mg base (k + 1) "_law_no_earlier" ["_law_ahead", "_law_found"] spNoEar := by
  refine Okf.of d sc_no_earlier (fun vs H Q E h => ?_) (fun f cdv A outer s H vs Q E hr h => ?_)
  · obtain ⟨p1, p2, ws, us, rfl, _⟩ := h
    rfl
  · obtain ⟨p1, p2, ws, us, rfl, f1, f2, hok, q⟩ := h
    refine ⟨_, (@pss_cons _ _ _ _ _ (@ps_if _ _ _ _ _ _ _ _ (@pt_cmpR _ _ _ _ _ _ _ _ (op_eqA hr.units) (@pe_ix _ _ _ _ _ _ _ ix_LT (pv 0) (@pe_int _ _ _ _) (fun _ _ => rfl)) (@pe_str _ _ _ _) (nomark _)) (@pss_one _ _ _ (@ps_ret _ _ _ _ (@pe_cmpR _ _ _ _ _ _ _ _ (op_eqA hr.units) (@pe_ix _ _ _ _ _ _ _ ix_LT (pv 1) (@pe_int _ _ _ _) (fun _ _ => rfl)) (@pe_str _ _ _ _) (nomark _)))) (@pss_nil _)) (@pss_cons _ _ _ _ _ (@ps_if _ _ _ _ _ _ _ _ (@pt_cmpR _ _ _ _ _ _ _ _ (op_eqA hr.units) (@pe_ix _ _ _ _ _ _ _ ix_LT (pv 1) (@pe_int _ _ _ _) (fun _ _ => rfl)) (@pe_str _ _ _ _) (nomark _)) (@pss_one _ _ _ (@ps_ret _ _ _ _ (@pe_bl _ _ _ _))) (@pss_nil _)) (@pss_cons _ _ _ _ _ (@ps_forD _ _ _ _ _ _ _ _ PassesOwn.never rfl (@pe_ix _ _ _ _ _ _ _ ix_LT (pv 0) (@pe_int _ _ _ _) (fun _ _ => rfl)) (@pg_name _ _ (i := 2) _ sc_no_earlier.nd rfl (by first | exact Or.inl rfl | exact Or.inr rfl) (by first | exact .inl rfl | exact .inr rfl | assumption)) (@pss_one _ _ _ (@ps_if _ _ _ _ _ _ _ _ (@pt_val _ _ _ (@pe_callO _ _ _ _ _ _ _ _ _ _ o_less hr rfl (@pa_cons _ _ _ _ _ (@pe_dget _ _ _ _ _ _ hr.u1 (@pe_ix _ _ _ _ _ _ _ ix_LT (pv 1) (@pe_int _ _ _ _) (fun _ _ => rfl)) (pv 2) (fun _ _ => rfl)) (@pa_cons _ _ _ _ _ (@pe_dget _ _ _ _ _ _ hr.u1 (@pe_ix _ _ _ _ _ _ _ ix_LT (pv 0) (@pe_int _ _ _ _) (fun _ _ => rfl)) (pv 2) (fun _ _ => rfl)) (@pa_nil _) (by rfl)) (by rfl)) (by decide) (by rfl) (by rfl)) (by intro _; rfl)) (@pss_one _ _ _ (@ps_ret _ _ _ _ (@pe_bl _ _ _ _))) (@pss_nil _))) (by intro _; rfl)) (@pss_one _ _ _ (@ps_ret _ _ _ _ (@pe_bl _ _ _ _)))))), ?_⟩
    rcases f1 with ⟨d1, m1, hp1, ⟨kv1, hk1, kq1⟩, ke1, b1, sat1, wk1, z1⟩ | ⟨l1, R1, hp1, hl1, ro1, _⟩
    · rcases f2 with ⟨d2, m2, hp2, ⟨kv2, hk2, kq2⟩, ke2, b2, sat2, wk2, z2⟩ | ⟨l2, R2, hp2, hl2, ro2, _⟩
      · walk_at "go"
        refine i_d (fun c => absurd c (by decide +kernel)) (fun _ => ?_)
        walk_at "go"
        refine i_d (fun c => absurd c (by decide +kernel)) (fun _ => ?_)
        walk_at "go"
        refine r_forD d1 (NoFrz.dK hk1) ?_
        walk_at "go"
        refine ⟨rfl, kv1, hk1, fun o => ?_⟩
        have bok := (bfold_ok (Pk := fun _ => True) (Pv := Sz 8000) (by constructor <;> decide +kernel) ws fun x hx => ok_sz (hok x hx)).ks
        have tkf : TK H (upd H d1 (.frz o (.dK kv1))) := TK.dic hk1
        have g2f : Rd (upd H d1 (.frz o (.dK kv1))) d2 (.dK kv2) := rd_frz hk1 hk2
        have hfz : upd H d1 (.frz o (.dK kv1)) d1 = some (.frz o (.dK kv1)) := upd_same
        have back : ∀ G, Same (upd H d1 (.frz o (.dK kv1))) G → Same H (melt d1 G) := fun G s => melt_same hk1 s
        generalize upd H d1 (.frz o (.dK kv1)) = HF at tkf g2f hfz back ⊢
        have M : ∀ {i j : Int}, Sm 8000 i → Sm 8000 j → CMulB i j := fun h1 h2 => CMulB.s h1 h2 (by decide) (by decide)
        refine r_forDk (fun i σ G => Same HF G ∧ ∃ o3, σ = [some (.ref p1), some (.ref p2), o3]) ⟨Same.refl _, _, rfl⟩ ?_ ?_ ?_
        · rintro i σ G _ ⟨sG, _⟩
          exact sG _ _ hfz
        · rintro i c v σ G hx ⟨sG, o3, rfl⟩
          have hc : c ∈ (bfold ws).map (·.1) := by
            have : c ∈ kv1.map (·.1) := List.mem_map.mpr ⟨(c, v), List.mem_of_getElem? hx, rfl⟩
            rw [kq1.keys, ke1] at this
            exact this
          obtain ⟨y, rfl⟩ : ∃ y : Str, c = Sum.inr y := by
            obtain ⟨x, hx, e⟩ := List.mem_map.mp hc
            obtain ⟨s, es, _⟩ := bok x hx
            exact ⟨s, e.symm.trans es⟩
          obtain ⟨a1, e1, h1, zz1⟩ := mval kq1 (by rw [ke1]; exact hc) z1
          obtain ⟨a2, e2, h2, zz2⟩ := mval kq2 (by rw [ke2]; exact has_key (hasB_pre us (key_has hc))) z2
          have tkG : TK H G := tkf.trans sG.tk
          have h1G := tkG _ _ h1
          have h2G := tkG _ _ h2
          have hp1G := tkG _ _ hp1
          have hp2G := tkG _ _ hp2
          walk_at "go"
          refine r_dGk (rd_sm g2f sG) e2 ?_
          walk_at "go"
          refine r_dGk (.inr ⟨_, sG _ _ hfz⟩) e1 ?_
          walk_at "go"
          refine ⟨a2, a1, _, _, _, _, rfl, h2G, h1G, M zz2.sm.1 zz1.sm.2, M zz1.sm.1 zz2.sm.2, ?_⟩
          have hle : mfun m1 y ≤ mfun m2 y := wk_tight (fun st hst => sat2 st (steps_pre hst)) (fun s => Rat.le_trans (mfun_bfold ws s us) (b2 s)) (wk1 y)
          rw [less_iff, decide_eq_false (Rat.not_lt.mpr hle)]
          walk_at "go"
          exact ⟨sG, _, rfl⟩
        · rintro σ G ⟨sG, o3, rfl⟩
          refine r_dmN ?_
          walk_at "go"
          exact q _ (back G sG)
      · walk_at "go"
        refine i_d (fun c => absurd c (by decide +kernel)) (fun _ => ?_)
        walk_at "go"
        refine i_d (fun _ => ?_) (fun c => absurd rfl c)
        walk_at "go"
        exact q _ (Same.refl _)
    · rcases f2 with ⟨d2, m2, hp2, hk2, ke2, b2, sat2, wk2, z2⟩ | ⟨l2, R2, hp2, hl2, ro2, _⟩
      · exact (ring_no (M := mfun m2) ro1 fun st hst => sat2 st (steps_pre hst)).elim
      · walk_at "go"
        refine i_d (fun _ => ?_) (fun c => absurd rfl c)
        walk_at "go"
        rw [beq_self_eq_true]
        exact q _ (Same.refl _)
set_option maxHeartbeats 0 in
theorem ok_law {f : Addr} {fd : FuncData} (T : Bl mg) (F : Fun K "law" "law" s_law f fd) (o_no_earlier : Okf P w K mg base k "_law_no_earlier" ["_law_ahead", "_law_found"] spNoEar) (o_right : Okf P w K mg base k "_law_right" ["_law_found", "_law_wishes"] spRightW) (o_played_at : Okf P w K mg base k "played_at" ["wishes"] spPlayed) (o_number : Okf P w K mg base k "_law_number" ["_law_script", "_law_k"] (spNumW K)) (o_eased : Okf P w K mg base k "_law_eased" ["_law_wish_here", "_law_number_here"] spEased) (o_wish : Okf P w K mg base k "_law_wish" ["_law_number_here", "_law_bells_here"] (spWish2 K)) (o_bells : Okf P w K mg base k "_law_bells" ["_law_script", "_law_most"] (spBells K)) : FnOk P w K mg base CX0 (k + 1) f fd ["_law_script"] (spLaw K) := by
  refine F.ok sc_law (fun vs H Q E h => ?_) (fun cdv A outer s H vs Q E hr h => ?_)
  · obtain ⟨a, ns, rfl, _⟩ := h
    rfl
  · obtain ⟨a, ns, rfl, hS, h63, q⟩ := h
    refine ⟨_, (@pss_cons _ _ _ _ _ (@ps_set _ _ (i := 1) _ _ _ _ sc_law.nd rfl (by first | exact Or.inl rfl | exact Or.inr rfl) (@pe_callO _ _ _ _ _ _ _ _ _ _ o_bells hr rfl (@pa_cons _ _ _ _ _ (pv 0) (@pa_cons _ _ _ _ _ (@pe_int _ _ _ _) (@pa_nil _) (by rfl)) (by rfl)) (by decide) (by rfl) (by rfl)) (by rfl) (by first | exact .inl rfl | exact .inr rfl | assumption)) (@pss_cons _ _ _ _ _ (@ps_set _ _ (i := 2) _ _ _ _ sc_law.nd rfl (by first | exact Or.inl rfl | exact Or.inr rfl) (@pe_cmpR _ _ _ _ _ _ _ _ op_gt (@pe_op _ _ _ _ _ _ _ _ op_mod (@pe_callO _ _ _ _ _ _ _ _ _ _ o_number hr rfl (@pa_cons _ _ _ _ _ (pv 0) (@pa_cons _ _ _ _ _ (@pe_int _ _ _ _) (@pa_nil _) (by rfl)) (by rfl)) (by decide) (by rfl) (by rfl)) (@pe_int _ _ _ _)) (@pe_int _ _ _ _) (nomark _)) (by rfl) (by first | exact .inl rfl | exact .inr rfl | assumption)) (@pss_cons _ _ _ _ _ (@ps_set _ _ (i := 3) _ _ _ _ sc_law.nd rfl (by first | exact Or.inl rfl | exact Or.inr rfl) (@pe_lst _ _ _ _ (@pa_nil _)) (by rfl) (by first | exact .inl rfl | exact .inr rfl | assumption)) (@pss_cons _ _ _ _ _ (@ps_for _ _ _ _ _ _ _ _ PassesOwn.never rfl (@pi_range2 _ _ _ _ _ _ _ rfl T.z_range (@pa_cons _ _ _ _ _ (@pe_int _ _ _ _) (@pa_cons _ _ _ _ _ (@pe_callB _ _ _ _ _ _ _ _ _ (c_min rfl) rfl T.z_min bt_min (@pa_cons _ _ _ _ _ (@pe_callB _ _ _ _ _ _ _ _ _ c_len rfl T.z_len bt_len (@pa_cons _ _ _ _ _ (pv 0) (@pa_nil _) (by rfl)) (by decide) (by decide) (by rfl) (by rfl)) (@pa_cons _ _ _ _ _ (@pe_int _ _ _ _) (@pa_nil _) (by rfl)) (by rfl)) (by decide) (by decide) (by rfl) (by rfl)) (@pa_nil _) (by rfl)) (by rfl)) (by rfl) (by rfl)) (@pg_name _ _ (i := 4) _ sc_law.nd rfl (by first | exact Or.inl rfl | exact Or.inr rfl) (by first | exact .inl rfl | exact .inr rfl | assumption)) (@pss_cons _ _ _ _ _ (@ps_set _ _ (i := 5) _ _ _ _ sc_law.nd rfl (by first | exact Or.inl rfl | exact Or.inr rfl) (@pe_callO _ _ _ _ _ _ _ _ _ _ o_number hr rfl (@pa_cons _ _ _ _ _ (pv 0) (@pa_cons _ _ _ _ _ (pv 4) (@pa_nil _) (by rfl)) (by rfl)) (by decide) (by rfl) (by rfl)) (by rfl) (by first | exact .inl rfl | exact .inr rfl | assumption)) (@pss_cons _ _ _ _ _ (@ps_set _ _ (i := 6) _ _ _ _ sc_law.nd rfl (by first | exact Or.inl rfl | exact Or.inr rfl) (@pe_callO _ _ _ _ _ _ _ _ _ _ o_wish hr rfl (@pa_cons _ _ _ _ _ (pv 5) (@pa_cons _ _ _ _ _ (pv 1) (@pa_nil _) (by rfl)) (by rfl)) (by decide) (by rfl) (by rfl)) (by rfl) (by first | exact .inl rfl | exact .inr rfl | assumption)) (@pss_cons _ _ _ _ _ (@ps_if _ _ _ _ _ _ _ _ (@pt_val _ _ _ (pv 2) (by intro _; rfl)) (@pss_one _ _ _ (@ps_set _ _ (i := 6) _ _ _ _ sc_law.nd rfl (by first | exact Or.inl rfl | exact Or.inr rfl) (@pe_callO _ _ _ _ _ _ _ _ _ _ o_eased hr rfl (@pa_cons _ _ _ _ _ (pv 6) (@pa_cons _ _ _ _ _ (@pe_op _ _ _ _ _ _ _ _ op_fdivB (@pe_op _ _ _ _ _ _ _ _ op_fdivB (@pe_op _ _ _ _ _ _ _ _ op_fdivB (@pe_op _ _ _ _ _ _ _ _ op_fdivB (@pe_op _ _ _ _ _ _ _ _ op_fdivB (pv 5) (@pe_int _ _ _ _)) (@pe_callB _ _ _ _ _ _ _ _ _ c_len rfl T.z_len bt_len (@pa_cons _ _ _ _ _ (pv 1) (@pa_nil _) (by rfl)) (by decide) (by decide) (by rfl) (by rfl))) (@pe_int _ _ _ _)) (@pe_op _ _ _ _ _ _ _ _ op_sub (@pe_callB _ _ _ _ _ _ _ _ _ c_len rfl T.z_len bt_len (@pa_cons _ _ _ _ _ (pv 1) (@pa_nil _) (by rfl)) (by decide) (by decide) (by rfl) (by rfl)) (@pe_int _ _ _ _))) (@pe_int _ _ _ _)) (@pa_nil _) (by rfl)) (by rfl)) (by decide) (by rfl) (by rfl)) (by rfl) (by first | exact .inl rfl | exact .inr rfl | assumption))) (@pss_nil _)) (@pss_one _ _ _ (@ps_expr _ _ _ _ (@pe_bm _ _ _ _ _ _ _ _ _ _ _ _ PySem.F.plainAttrs_list PySem.F.slot_list_append PySem.F.type_list_append mt_append (pv 3) (@pa_cons _ _ _ _ _ (pv 6) (@pa_nil _) (by rfl)) (by rfl) (by rfl) (by rfl) (by rfl) (by rfl)) (by rfl)))))) (by intro _; rfl)) (@pss_cons _ _ _ _ _ (@ps_set _ _ (i := 7) _ _ _ _ sc_law.nd rfl (by first | exact Or.inl rfl | exact Or.inr rfl) (@pe_op _ _ _ _ _ _ _ _ op_addA (@pe_int _ _ _ _) (@pe_op _ _ _ _ _ _ _ _ op_mod (@pe_op _ _ _ _ _ _ _ _ op_fdivB (@pe_callO _ _ _ _ _ _ _ _ _ _ o_number hr rfl (@pa_cons _ _ _ _ _ (pv 0) (@pa_cons _ _ _ _ _ (@pe_int _ _ _ _) (@pa_nil _) (by rfl)) (by rfl)) (by decide) (by rfl) (by rfl)) (@pe_int _ _ _ _)) (@pe_int _ _ _ _))) (by rfl) (by first | exact .inl rfl | exact .inr rfl | assumption)) (@pss_cons _ _ _ _ _ (@ps_set _ _ (i := 8) _ _ _ _ sc_law.nd rfl (by first | exact Or.inl rfl | exact Or.inr rfl) (@pe_tup _ _ _ _ _ (@pa_cons _ _ _ _ _ (@pe_str _ _ _ _) (@pa_cons _ _ _ _ _ (@pe_dnewK _ _) (@pa_nil _) (by rfl)) (by rfl))) (by rfl) (by first | exact .inl rfl | exact .inr rfl | assumption)) (@pss_cons _ _ _ _ _ (@ps_for _ _ _ _ _ _ _ _ PassesOwn.never rfl (@pi_list _ _ _ _ (@pe_op _ _ _ _ _ _ _ _ op_addA (@pe_lrn3 _ _ _ _ _ _ _ _ _ rfl rfl T.z_list rfl T.z_range (@pa_cons _ _ _ _ _ (@pe_int _ _ _ _) (@pa_cons _ _ _ _ _ (@pe_callB _ _ _ _ _ _ _ _ _ c_len rfl T.z_len bt_len (@pa_cons _ _ _ _ _ (pv 3) (@pa_nil _) (by rfl)) (by decide) (by decide) (by rfl) (by rfl)) (@pa_cons _ _ _ _ _ (pv 7) (@pa_nil _) (by rfl)) (by rfl)) (by rfl)) (by rfl) (by rfl) (by rfl)) (@pe_lst _ _ _ _ (@pa_cons _ _ _ _ _ (@pe_callB _ _ _ _ _ _ _ _ _ c_len rfl T.z_len bt_len (@pa_cons _ _ _ _ _ (pv 3) (@pa_nil _) (by rfl)) (by decide) (by decide) (by rfl) (by rfl)) (@pa_nil _) (by rfl))))) (@pg_name _ _ (i := 9) _ sc_law.nd rfl (by first | exact Or.inl rfl | exact Or.inr rfl) (by first | exact .inl rfl | exact .inr rfl | assumption)) (@pss_cons _ _ _ _ _ (@ps_set _ _ (i := 10) _ _ _ _ sc_law.nd rfl (by first | exact Or.inl rfl | exact Or.inr rfl) (@pe_callO _ _ _ _ _ _ _ _ _ _ o_played_at hr rfl (@pa_cons _ _ _ _ _ (@pe_slice _ _ _ _ _ _ _ _ _ _ sl_any (pv 3) (@po_none _) (@po_some _ _ _ (pv 9))) (@pa_nil _) (by rfl)) (by decide) (by rfl) (by rfl)) (by rfl) (by first | exact .inl rfl | exact .inr rfl | assumption)) (@pss_cons _ _ _ _ _ (@ps_if _ _ _ _ _ _ _ _ (@PW.pt _ _ _ (@pw_or _ _ _ _ _ _ _ (@pt_not _ _ _ _ (@pt_val _ _ _ (@pe_callO _ _ _ _ _ _ _ _ _ _ o_right hr rfl (@pa_cons _ _ _ _ _ (pv 10) (@pa_cons _ _ _ _ _ (@pe_slice _ _ _ _ _ _ _ _ _ _ sl_any (pv 3) (@po_none _) (@po_some _ _ _ (pv 9))) (@pa_nil _) (by rfl)) (by rfl)) (by decide) (by rfl) (by rfl)) (by intro _; rfl))) (@pw_or1 _ _ _ _ (@pt_not _ _ _ _ (@pt_val _ _ _ (@pe_callO _ _ _ _ _ _ _ _ _ _ o_no_earlier hr rfl (@pa_cons _ _ _ _ _ (pv 8) (@pa_cons _ _ _ _ _ (pv 10) (@pa_nil _) (by rfl)) (by rfl)) (by decide) (by rfl) (by rfl)) (by intro _; rfl)))))) (@pss_one _ _ _ (@ps_ret _ _ _ _ (@pe_bl _ _ _ _))) (@pss_nil _)) (@pss_one _ _ _ (@ps_set _ _ (i := 8) _ _ _ _ sc_law.nd rfl (by first | exact Or.inl rfl | exact Or.inr rfl) (pv 10) (by rfl) (by first | exact .inl rfl | exact .inr rfl | assumption))))) (by intro _; rfl)) (@pss_one _ _ _ (@ps_ret _ _ _ _ (@pe_bl _ _ _ _)))))))))), ?_⟩
    have hf : ∀ {z j : Int}, 0 ≤ z → 0 < j → 0 ≤ z.fdiv j := fun h1 h2 => fdiv_nn h1 h2
    walk_at "go"
    refine ⟨a, ns, 12, rfl, hS, by decide, by decide, fun lb H1 i j o e n hb s1 hi hj hn1 hn2 hlb => ?_⟩
    have hU := nmsB_post (o := o) (e := e) (n := n) hi hj
    have hnd := nmsB_nd (i := i) (j := j) (o := o) (e := e) (n := n) (by omega)
    have hUl := nmsB_len i j o e n
    generalize nmsB i j o e n = U at hU hnd hUl hlb
    walk_at "go"
    refine ⟨a, ns, 2, rfl, s1.seq hS, by decide, by decide, fun r0 hr0 => ?_⟩
    walk_at "go"
    refine r_lstK fun lw hlw => ?_
    have s2 := Same.new (H := H1) (o := .lst []) hlw
    have hlw2 := upd_same (H := H1) (a := lw) (o := .lst [])
    generalize upd H1 lw (.lst []) = H2 at s2 hlw2 ⊢
    have s02 := s1.trans s2
    generalize decide (r0 % 3 > 0) = ea
    walk_at "go"
    refine r_lenL (s02.seq hS) ?_
    walk_at "go"
    rw [List.length_map]
    refine r_rng2K (by decide) (by decide) (by split <;> omega) (by split <;> omega) ?_
    generalize hN : Int.toNat _ = N
    have hN40 : N ≤ 40 := by rw [← hN]; (repeat' split) <;> omega
    clear hN
    have hlbx := s2 _ _ hlb
    refine r_forRp (n := N) (fun i σ G => ∃ o4 o5 o6 ws, σ = [some (.ref a), some (.ref lb), some (.bl ea), some (.ref lw), o4, o5, o6, none, none, none, none] ∧ Same H1 G ∧ LQ WishQ G lw ws ∧ (∀ w ∈ ws, w.ok ∧ w.bdW2 ∧ ∀ s ∈ w.bells, s ∈ U) ∧ ws.length ≤ i) ⟨_, _, _, [], rfl, s2, ⟨[], hlw2, .nil⟩, (fun _ h => nomatch h), Nat.le_refl _⟩ ?_ ?_
    · rintro P' rt bk hP i σ G hi ⟨o4, o5, o6, ws, rfl, sG, ⟨vw, hvw, pw⟩, ok, hl⟩
      have sHG := s1.trans sG
      walk_at "go"
      refine ⟨a, ns, _, rfl, sHG.seq hS, by omega, by omega, fun r hr0 => ?_⟩
      walk_at "go"
      have hvl : vw.length = ws.length := Paired.length pw
      refine ⟨_, lb, U, rfl, hr0, sG _ _ hlb, by omega, by omega, hnd, hU, fun v' G2 w' s3 qw okw inU bdw => ?_⟩
      walk_at "go"
      have hlb2 := s3 _ _ (sG _ _ hlb)
      split
      · walk_at "go"
        rw [List.length_map]
        walk_at "go"
        rw [List.length_map]
        walk_at "go"
        refine ⟨_, w', _, rfl, qw, okw, bdw, fun v3 w3 G3 s4' qw3 ok3 bd3 eb => ?_⟩
        have s4 := s3.trans s4'
        have hv3 := s4 _ _ hvw
        walk_at "go"
        refine r_app hv3 (by omega) ?_
        walk_at "go"
        have tk3 : TK G3 (upd G3 lw (.lst (vw ++ [v3]))) := TK.lst hv3
        refine hP _ _ _ ⟨_, _, _, ws ++ [w3], rfl, Kp.sm (Kp.upd (p := lw)) (sG.trans s4) hlw, ⟨_, upd_same, Pd.snoc (Pd.imp pw fun v b h => h.tk (s4.tk.trans tk3)) (qw3.tk tk3)⟩, fun x hx => ?_, ?_⟩
        · rcases List.mem_append.mp hx with h | h
          · exact ok x h
          · rw [List.mem_singleton.mp h]
            exact ⟨ok3, bd3, fun s hs => bells_inU inU s (by rw [← eb]; exact hs)⟩
        · rw [List.length_append, List.length_singleton]
          omega
      · have s4 := s3
        have qw3 := qw
        have ok3 := okw
        have bd3 := bdw
        have eb : Wsh.bells w' = Wsh.bells w' := rfl
        have hv3 := s4 _ _ hvw
        walk_at "go"
        refine r_app hv3 (by omega) ?_
        walk_at "go"
        have tk3 : TK G2 (upd G2 lw (.lst (vw ++ [v']))) := TK.lst hv3
        refine hP _ _ _ ⟨_, _, _, ws ++ [w'], rfl, Kp.sm (Kp.upd (p := lw)) (sG.trans s4) hlw, ⟨_, upd_same, Pd.snoc (Pd.imp pw fun v b h => h.tk (s4.tk.trans tk3)) (qw3.tk tk3)⟩, fun x hx => ?_, ?_⟩
        · rcases List.mem_append.mp hx with h | h
          · exact ok x h
          · rw [List.mem_singleton.mp h]
            exact ⟨ok3, bd3, fun s hs => bells_inU inU s (by rw [← eb]; exact hs)⟩
        · rw [List.length_append, List.length_singleton]
          omega
    · rintro σ G ⟨o4, o5, o6, ws, rfl, sG, hq, ok, hl⟩
      have sHG := s1.trans sG
      have hq2 := hq
      obtain ⟨vw, hvw, pw⟩ := hq2
      have hvl : vw.length = ws.length := Paired.length pw
      walk_at "go"
      refine ⟨a, ns, 2, rfl, sHG.seq hS, by decide, by decide, fun r1 hr1 => ?_⟩
      walk_at "go"
      refine r_dnew fun d0 hd0 => ?_
      walk_at "go"
      refine r_tupK fun p0 hp0 => ?_
      have sa := (Same.new (H := G) (o := .dK []) hd0).trans (Same.new (o := .tup [.str "moments", .ref d0]) hp0)
      have fd0 : FdQ (upd (upd G d0 (.dK [])) p0 (.tup [.str "moments", .ref d0])) p0 (ws.take 0) := .inl ⟨d0, [], upd_same, ⟨[], upd_old hp0 upd_same, .nil⟩, rfl, fun _ => Rat.le_refl, (fun _ h => nomatch h), fun s => .own s, fun _ h => nomatch h⟩
      generalize upd (upd G d0 (.dK [])) p0 (.tup [.str "moments", .ref d0]) = G3 at sa fd0 ⊢
      have hq3 := hq.sm WishQ.tk sa
      have hv3 := sa _ _ hvw
      have hk0 : 20 ≤ 20 + r1.fdiv 3 % 11 ∧ 20 + r1.fdiv 3 % 11 ≤ 30 := by omega
      generalize 20 + r1.fdiv 3 % 11 = kk at hk0 ⊢
      obtain ⟨k1, rfl⟩ : ∃ k1 : Nat, kk = k1 := ⟨kk.toNat, by omega⟩
      walk_at "go"
      refine r_lrn3 ?_
      walk_at "go"
      refine ⟨vw.length, k1, rfl, by omega, by omega, by omega, fun pr hpr => ?_⟩
      have hv4 := upd_old (o := .lst ((rngS vw.length k1).map fun (i : Nat) => V.int (i : Int))) hpr hv3
      walk_at "go"
      refine r_lstK fun pn hpn => ?_
      have hrl := rngS_len (n := vw.length) (k := k1) (by omega)
      walk_at "go"
      refine a_lst (upd_old hpn upd_same) upd_same (by rw [List.length_map, List.length_singleton]; omega) fun pl hpl => ?_
      obtain ⟨L, hL, up, hle, hLl⟩ : ∃ L : List Nat, ((rngS vw.length k1).map fun (i : Nat) => V.int (i : Int)) ++ [V.int (vw.length : Int)] = L.map (fun (i : Nat) => V.int (i : Int)) ∧ L.Pairwise (· ≤ ·) ∧ (∀ x ∈ L, x ≤ vw.length) ∧ L.length ≤ 100 := by
        refine ⟨rngS vw.length k1 ++ [vw.length], by rw [List.map_append]; rfl, List.pairwise_append.mpr ⟨rngS_up _ _, List.pairwise_singleton .., fun x hx y hy => ?_⟩, fun x hx => ?_, by rw [List.length_append, List.length_singleton]; omega⟩
        · rw [List.mem_singleton.mp hy]
          exact rngS_le (by omega) hx
        · rcases List.mem_append.mp hx with h | h
          · exact rngS_le (by omega) h
          · rw [List.mem_singleton.mp h]
            exact Nat.le_refl _
      rw [hL]
      have hL4 := upd_same (H := upd (upd G3 pr (.lst ((rngS vw.length k1).map fun (i : Nat) => V.int (i : Int)))) pn (.lst [V.int (vw.length : Int)])) (a := pl) (o := .lst (L.map fun (i : Nat) => V.int (i : Int)))
      have sb := ((Same.new (H := G3) (o := .lst ((rngS vw.length k1).map fun (i : Nat) => V.int (i : Int))) hpr).trans (Same.new (o := .lst [V.int (vw.length : Int)]) hpn)).trans (Same.new (o := .lst (L.map fun (i : Nat) => V.int (i : Int))) hpl)
      generalize upd (upd (upd G3 pr (.lst ((rngS vw.length k1).map fun (i : Nat) => V.int (i : Int)))) pn (.lst [V.int (vw.length : Int)])) pl (.lst (L.map fun (i : Nat) => V.int (i : Int))) = G4 at hL4 sb ⊢
      have hq4 := hq3.sm WishQ.tk sb
      have fd4 := fd0.sm sb
      clear hL hpr hpn hpl hv4 hv3 hq3 fd0 hp0 hd0 hrl sb
      have okx : ∀ (m : Nat), ∀ w ∈ ws.take m, w.ok ∧ w.bdW2 ∧ ∀ s ∈ w.bells, s ∈ U := fun m w hw => ok w (List.mem_of_mem_take hw)
      have few : ∀ m : Nat, List.length (α := Key × Rat) (bfold (ws.take m)) ≤ 60 := fun m => Nat.le_trans (bfold_few (U := U) _ fun w hw => ⟨(okx m w hw).1, (okx m w hw).2.2⟩) (by omega)
      have tl : ∀ m : Nat, (ws.take m).length ≤ 40 := fun m => by rw [List.length_take]; omega
      have one : ∀ (F : Hp) (la : Addr) (m : Nat) (Q' : VK), LQ WishQ F la (ws.take m) → (∀ p F', Same F F' → FdQ F' p (ws.take m) → Q' (.ref p) F') → spPlayed [.ref la] F Q' E0 := fun F la m Q' hq k => by
        have okm := okx m
        have bdm : ∀ w ∈ ws.take m, w.bd D0 (10 ^ 40) := fun w hw => Wsh.bd.mono (by decide) (okm w hw).2.1.bd
        have hlm := tl m
        generalize ws.take m = wx at *
        refine ⟨la, wx, D0, 10 ^ 40, rfl, hq, fun w hw => (okm w hw).1, by omega, bdm, roomD0, fun p d F' m _ _ sF hp hd ke hb hsat hwk hz => ?_, fun p l' F' R f1 f2 sF hp hR rok rl => ?_⟩
        · exact k p F' sF (.inl ⟨d, m, hp, hd, ke, hb, hsat, hwk, fun x hx => roomD0.sz (N := 900000) (by decide) (hz x hx)⟩)
        · refine k p F' sF (.inr ⟨l', R, hp, hR, rok, rl, fun st hst => ?_⟩)
          obtain ⟨w', hw, jj, hj⟩ := stepsFrom_mem (rok.sub st hst)
          exact sz0 (stepsBy_bd (bdm w' hw) hj)
      have rgt : ∀ (F : Hp) (p la : Addr) (m : Nat) (Q' : VK), LQ WishQ F la (ws.take m) → FdQ F p (ws.take m) → (∀ F', Same F F' → Q' (.bl true) F') → spRightW [.ref p, .ref la] F Q' E0 := fun F p la m Q' hq fd k => by
        have okm := okx m
        have hlm := tl m
        have fw := few m
        generalize ws.take m = wx at *
        rcases fd with ⟨d, mm, hp, hd, ke, hb, hsat, hwk, hz⟩ | ⟨l', R, hp, hR, rok, rl, rs⟩
        · exact ⟨p, la, wx, d, _, rfl, hp, .inl ⟨rfl, fun Q2 k2 => ⟨d, la, wx, mm, rfl, hd, hq, fun w hw => (okm w hw).1, by omega, fw, ke, hb, hsat, hwk, hz, k2⟩⟩, k⟩
        · exact ⟨p, la, wx, l', _, rfl, hp, .inr ⟨rfl, fun Q2 k2 => ⟨l', la, wx, R, rfl, hR, hq, by omega, rok, rl, rs, k2⟩⟩, k⟩
      have cut : ∀ (F : Hp) (m : Nat) (K' : PySem.W.Frag) (Q' : VK), Same G4 F → (∀ lc F', Same F F' → LQ WishQ F' lc (ws.take m) → Q' (.ref lc) F') → rSlA K' (.ref lw) none (some ((m : Nat) : Int)) F Q' := fun F m K' Q' sF k => by
        obtain ⟨v4, hv4, p4⟩ := hq4.sm WishQ.tk sF
        refine s_lst hv4 fun lc hlc => ?_
        rw [cut_take]
        refine k lc _ (Same.new hlc) ⟨_, upd_same, ?_⟩
        exact Pd.imp (pd_take p4 m) fun v b h => h.tk (Same.new hlc).tk
      refine r_listK (SqL.of hL4) ?_
      refine r_forLp (xs := L.map fun (i : Nat) => V.int (i : Int)) (fun i σ F => ∃ o9 o10 pa m0, σ = [some (.ref a), some (.ref lb), some (.bl ea), some (.ref lw), o4, o5, o6, some (.int (k1 : Int)), some (.ref pa), o9, o10] ∧ Same G4 F ∧ FdQ F pa (ws.take m0) ∧ ∀ j m, i ≤ j → L[j]? = some m → m0 ≤ m) ⟨_, _, _, 0, rfl, Same.refl _, fd4, fun _ _ _ _ => Nat.zero_le _⟩ ?_ ?_ ?_
      · rintro i σ F _ ⟨o9, o10, pa, m0, rfl, sF, _⟩
        exact SqL.of (sF _ _ hL4)
      · rintro P' rt bk hP i x σ F hx ⟨o9, o10, pa, m0, rfl, sF, fa, lo⟩
        obtain ⟨m, hm, rfl⟩ : ∃ m, L[i]? = some m ∧ x = V.int (m : Int) := by
          rw [List.getElem?_map] at hx
          cases e : L[i]? with
          | none => rw [e] at hx; cases hx
          | some m => rw [e] at hx; exact ⟨m, rfl, (Option.some.inj hx).symm⟩
        walk_at "go"
        refine cut F m _ _ sF fun lc F1 t1 q1 => ?_
        walk_at "go"
        refine one F1 lc m _ q1 fun p F2 t2 fd2 => ?_
        walk_at "go"
        refine cut F2 m _ _ ((sF.trans t1).trans t2) fun lc2 F3 t3 q3 => ?_
        walk_at "go"
        refine rgt F3 p lc2 m _ q3 (fd2.sm t3) fun F4 t4 => ?_
        walk_at "go"
        have t04 := (t1.trans t2).trans (t3.trans t4)
        have hmm := lo i m (Nat.le_refl _) hm
        have ec : ws.take m = ws.take m0 ++ (ws.take m).drop m0 := by
          have h := (List.take_append_drop m0 (ws.take m)).symm
          rw [List.take_take, Nat.min_eq_left hmm] at h
          exact h
        refine ⟨pa, p, ws.take m0, (ws.take m).drop m0, rfl, fa.sm t04, by rw [← ec]; exact fd2.sm (t3.trans t4), fun w hw => (okx m0 w hw).1, fun F5 t5 => ?_⟩
        walk_at "go"
        refine hP _ _ _ ⟨_, _, _, m, rfl, (sF.trans t04).trans t5, fd2.sm ((t3.trans t4).trans t5), fun j m' hj hm' => ?_⟩
        obtain ⟨h1, e1⟩ := List.getElem?_eq_some_iff.mp hm
        obtain ⟨h2, e2⟩ := List.getElem?_eq_some_iff.mp hm'
        rw [← e1, ← e2]
        exact List.pairwise_iff_getElem.mp up i j h1 h2 (by omega)
      · rintro σ F ⟨o9, o10, pa, m0, rfl, sF, _⟩
        walk_at "go"
        exact q _
end
set_option maxHeartbeats 0 in
theorem all_mk {l : PySem.W.OpenLaw} {w : World} {K : PySem.W.Frag} {h : Heap} {mg : Str → Option Value} {fa : Addr} (X : K.In h) (G : h.Ns mainGlobals mg) (hfa : mg "law" = some (.ref fa)) {f0 : Addr} {oc0 : Value} {od0 an0 : Option Addr} {sl0 : Array (Option Value)} {kV0 dc0 pm0 cd0 ct0 : Value} {f1 : Addr} {oc1 : Value} {od1 an1 : Option Addr} {sl1 : Array (Option Value)} {kV1 dc1 pm1 cd1 ct1 : Value} {f2 : Addr} {oc2 : Value} {od2 an2 : Option Addr} {sl2 : Array (Option Value)} {kV2 dc2 pm2 cd2 ct2 : Value} {f3 : Addr} {oc3 : Value} {od3 an3 : Option Addr} {sl3 : Array (Option Value)} {kV3 dc3 pm3 cd3 ct3 : Value} {f4 : Addr} {oc4 : Value} {od4 an4 : Option Addr} {sl4 : Array (Option Value)} {kV4 dc4 pm4 cd4 ct4 : Value} {f5 : Addr} {oc5 : Value} {od5 an5 : Option Addr} {sl5 : Array (Option Value)} {kV5 dc5 pm5 cd5 ct5 : Value} {f6 : Addr} {oc6 : Value} {od6 an6 : Option Addr} {sl6 : Array (Option Value)} {kV6 dc6 pm6 cd6 ct6 : Value} {f7 : Addr} {oc7 : Value} {od7 an7 : Option Addr} {sl7 : Array (Option Value)} {kV7 dc7 pm7 cd7 ct7 : Value} {f8 : Addr} {oc8 : Value} {od8 an8 : Option Addr} {sl8 : Array (Option Value)} {kV8 dc8 pm8 cd8 ct8 : Value} {f9 : Addr} {oc9 : Value} {od9 an9 : Option Addr} {sl9 : Array (Option Value)} {kV9 dc9 pm9 cd9 ct9 : Value} {f10 : Addr} {oc10 : Value} {od10 an10 : Option Addr} {sl10 : Array (Option Value)} {kV10 dc10 pm10 cd10 ct10 : Value} {f11 : Addr} {oc11 : Value} {od11 an11 : Option Addr} {sl11 : Array (Option Value)} {kV11 dc11 pm11 cd11 ct11 : Value} {f12 : Addr} {oc12 : Value} {od12 an12 : Option Addr} {sl12 : Array (Option Value)} {kV12 dc12 pm12 cd12 ct12 : Value} {f13 : Addr} {oc13 : Value} {od13 an13 : Option Addr} {sl13 : Array (Option Value)} {kV13 dc13 pm13 cd13 ct13 : Value} {f14 : Addr} {oc14 : Value} {od14 an14 : Option Addr} {sl14 : Array (Option Value)} {kV14 dc14 pm14 cd14 ct14 : Value} {f15 : Addr} {oc15 : Value} {od15 an15 : Option Addr} {sl15 : Array (Option Value)} {kV15 dc15 pm15 cd15 ct15 : Value} {f16 : Addr} {oc16 : Value} {od16 an16 : Option Addr} {sl16 : Array (Option Value)} {kV16 dc16 pm16 cd16 ct16 : Value} {f17 : Addr} {oc17 : Value} {od17 an17 : Option Addr} {sl17 : Array (Option Value)} {kV17 dc17 pm17 cd17 ct17 : Value} {f18 : Addr} {oc18 : Value} {od18 an18 : Option Addr} {sl18 : Array (Option Value)} {kV18 dc18 pm18 cd18 ct18 : Value} {f19 : Addr} {oc19 : Value} {od19 an19 : Option Addr} {sl19 : Array (Option Value)} {kV19 dc19 pm19 cd19 ct19 : Value} {f20 : Addr} {oc20 : Value} {od20 an20 : Option Addr} {sl20 : Array (Option Value)} {kV20 dc20 pm20 cd20 ct20 : Value} {f21 : Addr} {oc21 : Value} {od21 an21 : Option Addr} {sl21 : Array (Option Value)} {kV21 dc21 pm21 cd21 ct21 : Value} {f22 : Addr} {oc22 : Value} {od22 an22 : Option Addr} {sl22 : Array (Option Value)} {kV22 dc22 pm22 cd22 ct22 : Value} {f23 : Addr} {oc23 : Value} {od23 an23 : Option Addr} {sl23 : Array (Option Value)} {kV23 dc23 pm23 cd23 ct23 : Value} {f24 : Addr} {oc24 : Value} {od24 an24 : Option Addr} {sl24 : Array (Option Value)} {kV24 dc24 pm24 cd24 ct24 : Value} {f25 : Addr} {oc25 : Value} {od25 an25 : Option Addr} {sl25 : Array (Option Value)} {kV25 dc25 pm25 cd25 ct25 : Value} {f26 : Addr} {oc26 : Value} {od26 an26 : Option Addr} {sl26 : Array (Option Value)} {kV26 dc26 pm26 cd26 ct26 : Value} {f27 : Addr} {oc27 : Value} {od27 an27 : Option Addr} {sl27 : Array (Option Value)} {kV27 dc27 pm27 cd27 ct27 : Value} {f28 : Addr} {oc28 : Value} {od28 an28 : Option Addr} {sl28 : Array (Option Value)} {kV28 dc28 pm28 cd28 ct28 : Value} {f29 : Addr} {oc29 : Value} {od29 an29 : Option Addr} {sl29 : Array (Option Value)} {kV29 dc29 pm29 cd29 ct29 : Value} {f30 : Addr} {oc30 : Value} {od30 an30 : Option Addr} {sl30 : Array (Option Value)} {kV30 dc30 pm30 cd30 ct30 : Value} {f31 : Addr} {oc31 : Value} {od31 an31 : Option Addr} {sl31 : Array (Option Value)} {kV31 dc31 pm31 cd31 ct31 : Value} {f32 : Addr} {oc32 : Value} {od32 an32 : Option Addr} {sl32 : Array (Option Value)} {kV32 dc32 pm32 cd32 ct32 : Value} {f33 : Addr} {oc33 : Value} {od33 an33 : Option Addr} {sl33 : Array (Option Value)} {kV33 dc33 pm33 cd33 ct33 : Value} {f34 : Addr} {oc34 : Value} {od34 an34 : Option Addr} {sl34 : Array (Option Value)} {kV34 dc34 pm34 cd34 ct34 : Value} {tk_LETTERS : Tok} {tk_MOST_LETTERS : Tok} {tk_MOST_PARTS : Tok}
    (a0 : PySem.W.nsIn K mainGlobals "is_whole" = some (some (.ref f0))) (l0 : K.lookup f0 = some ⟨oc0, od0, .func (PySem.W.fnOf "is_whole" "is_whole" (defArgs s_is_whole) (defBody s_is_whole) (defScope s_is_whole) .none kV0 dc0 pm0 an0 cd0 ct0), sl0⟩) (c0 : PySem.W.codeIn K cd0 "is_whole" = true) (k0 : PySem.W.keepIn K (.ref f0) = true)
    (a1 : PySem.W.nsIn K mainGlobals "common_divisor" = some (some (.ref f1))) (l1 : K.lookup f1 = some ⟨oc1, od1, .func (PySem.W.fnOf "common_divisor" "common_divisor" (defArgs s_common_divisor) (defBody s_common_divisor) (defScope s_common_divisor) .none kV1 dc1 pm1 an1 cd1 ct1), sl1⟩) (c1 : PySem.W.codeIn K cd1 "common_divisor" = true) (k1 : PySem.W.keepIn K (.ref f1) = true)
    (a2 : PySem.W.nsIn K mainGlobals "is_fraction" = some (some (.ref f2))) (l2 : K.lookup f2 = some ⟨oc2, od2, .func (PySem.W.fnOf "is_fraction" "is_fraction" (defArgs s_is_fraction) (defBody s_is_fraction) (defScope s_is_fraction) .none kV2 dc2 pm2 an2 cd2 ct2), sl2⟩) (c2 : PySem.W.codeIn K cd2 "is_fraction" = true) (k2 : PySem.W.keepIn K (.ref f2) = true)
    (a3 : PySem.W.nsIn K mainGlobals "added" = some (some (.ref f3))) (l3 : K.lookup f3 = some ⟨oc3, od3, .func (PySem.W.fnOf "added" "added" (defArgs s_added) (defBody s_added) (defScope s_added) .none kV3 dc3 pm3 an3 cd3 ct3), sl3⟩) (c3 : PySem.W.codeIn K cd3 "added" = true) (k3 : PySem.W.keepIn K (.ref f3) = true)
    (a4 : PySem.W.nsIn K mainGlobals "is_less" = some (some (.ref f4))) (l4 : K.lookup f4 = some ⟨oc4, od4, .func (PySem.W.fnOf "is_less" "is_less" (defArgs s_is_less) (defBody s_is_less) (defScope s_is_less) .none kV4 dc4 pm4 an4 cd4 ct4), sl4⟩) (c4 : PySem.W.codeIn K cd4 "is_less" = true) (k4 : PySem.W.keepIn K (.ref f4) = true)
    (a5 : PySem.W.nsIn K mainGlobals "is_moment" = some (some (.ref f5))) (l5 : K.lookup f5 = some ⟨oc5, od5, .func (PySem.W.fnOf "is_moment" "is_moment" (defArgs s_is_moment) (defBody s_is_moment) (defScope s_is_moment) .none kV5 dc5 pm5 an5 cd5 ct5), sl5⟩) (c5 : PySem.W.codeIn K cd5 "is_moment" = true) (k5 : PySem.W.keepIn K (.ref f5) = true)
    (a6 : PySem.W.nsIn K mainGlobals "is_part" = some (some (.ref f6))) (l6 : K.lookup f6 = some ⟨oc6, od6, .func (PySem.W.fnOf "is_part" "is_part" (defArgs s_is_part) (defBody s_is_part) (defScope s_is_part) .none kV6 dc6 pm6 an6 cd6 ct6), sl6⟩) (c6 : PySem.W.codeIn K cd6 "is_part" = true) (k6 : PySem.W.keepIn K (.ref f6) = true)
    (a7 : PySem.W.nsIn K mainGlobals "is_post" = some (some (.ref f7))) (l7 : K.lookup f7 = some ⟨oc7, od7, .func (PySem.W.fnOf "is_post" "is_post" (defArgs s_is_post) (defBody s_is_post) (defScope s_is_post) .none kV7 dc7 pm7 an7 cd7 ct7), sl7⟩) (c7 : PySem.W.codeIn K cd7 "is_post" = true) (k7 : PySem.W.keepIn K (.ref f7) = true)
    (a8 : PySem.W.nsIn K mainGlobals "is_pair" = some (some (.ref f8))) (l8 : K.lookup f8 = some ⟨oc8, od8, .func (PySem.W.fnOf "is_pair" "is_pair" (defArgs s_is_pair) (defBody s_is_pair) (defScope s_is_pair) .none kV8 dc8 pm8 an8 cd8 ct8), sl8⟩) (c8 : PySem.W.codeIn K cd8 "is_pair" = true) (k8 : PySem.W.keepIn K (.ref f8) = true)
    (a9 : PySem.W.nsIn K mainGlobals "is_wish" = some (some (.ref f9))) (l9 : K.lookup f9 = some ⟨oc9, od9, .func (PySem.W.fnOf "is_wish" "is_wish" (defArgs s_is_wish) (defBody s_is_wish) (defScope s_is_wish) .none kV9 dc9 pm9 an9 cd9 ct9), sl9⟩) (c9 : PySem.W.codeIn K cd9 "is_wish" = true) (k9 : PySem.W.keepIn K (.ref f9) = true)
    (a10 : PySem.W.nsIn K mainGlobals "refuse_no_wishes" = some (some (.ref f10))) (l10 : K.lookup f10 = some ⟨oc10, od10, .func (PySem.W.fnOf "refuse_no_wishes" "refuse_no_wishes" (defArgs s_refuse_no_wishes) (defBody s_refuse_no_wishes) (defScope s_refuse_no_wishes) .none kV10 dc10 pm10 an10 cd10 ct10), sl10⟩) (c10 : PySem.W.codeIn K cd10 "refuse_no_wishes" = true) (k10 : PySem.W.keepIn K (.ref f10) = true)
    (a11 : PySem.W.nsIn K mainGlobals "steps_by" = some (some (.ref f11))) (l11 : K.lookup f11 = some ⟨oc11, od11, .func (PySem.W.fnOf "steps_by" "steps_by" (defArgs s_steps_by) (defBody s_steps_by) (defScope s_steps_by) .none kV11 dc11 pm11 an11 cd11 ct11), sl11⟩) (c11 : PySem.W.codeIn K cd11 "steps_by" = true) (k11 : PySem.W.keepIn K (.ref f11) = true)
    (a12 : PySem.W.nsIn K mainGlobals "steps_of" = some (some (.ref f12))) (l12 : K.lookup f12 = some ⟨oc12, od12, .func (PySem.W.fnOf "steps_of" "steps_of" (defArgs s_steps_of) (defBody s_steps_of) (defScope s_steps_of) .none kV12 dc12 pm12 an12 cd12 ct12), sl12⟩) (c12 : PySem.W.codeIn K cd12 "steps_of" = true) (k12 : PySem.W.keepIn K (.ref f12) = true)
    (a13 : PySem.W.nsIn K mainGlobals "first_moments" = some (some (.ref f13))) (l13 : K.lookup f13 = some ⟨oc13, od13, .func (PySem.W.fnOf "first_moments" "first_moments" (defArgs s_first_moments) (defBody s_first_moments) (defScope s_first_moments) .none kV13 dc13 pm13 an13 cd13 ct13), sl13⟩) (c13 : PySem.W.codeIn K cd13 "first_moments" = true) (k13 : PySem.W.keepIn K (.ref f13) = true)
    (a14 : PySem.W.nsIn K mainGlobals "put_off" = some (some (.ref f14))) (l14 : K.lookup f14 = some ⟨oc14, od14, .func (PySem.W.fnOf "put_off" "put_off" (defArgs s_put_off) (defBody s_put_off) (defScope s_put_off) .none kV14 dc14 pm14 an14 cd14 ct14), sl14⟩) (c14 : PySem.W.codeIn K cd14 "put_off" = true) (k14 : PySem.W.keepIn K (.ref f14) = true)
    (a15 : PySem.W.nsIn K mainGlobals "ring_behind" = some (some (.ref f15))) (l15 : K.lookup f15 = some ⟨oc15, od15, .func (PySem.W.fnOf "ring_behind" "ring_behind" (defArgs s_ring_behind) (defBody s_ring_behind) (defScope s_ring_behind) .none kV15 dc15 pm15 an15 cd15 ct15), sl15⟩) (c15 : PySem.W.codeIn K cd15 "ring_behind" = true) (k15 : PySem.W.keepIn K (.ref f15) = true)
    (a16 : PySem.W.nsIn K mainGlobals "played_at" = some (some (.ref f16))) (l16 : K.lookup f16 = some ⟨oc16, od16, .func (PySem.W.fnOf "played_at" "played_at" (defArgs s_played_at) (defBody s_played_at) (defScope s_played_at) .none kV16 dc16 pm16 an16 cd16 ct16), sl16⟩) (c16 : PySem.W.codeIn K cd16 "played_at" = true) (k16 : PySem.W.keepIn K (.ref f16) = true)
    (a17 : PySem.W.nsIn K mainGlobals "_law_cell_at" = some (some (.ref f17))) (l17 : K.lookup f17 = some ⟨oc17, od17, .func (PySem.W.fnOf "_law_cell_at" "_law_cell_at" (defArgs s_cell_at) (defBody s_cell_at) (defScope s_cell_at) .none kV17 dc17 pm17 an17 cd17 ct17), sl17⟩) (c17 : PySem.W.codeIn K cd17 "_law_cell_at" = true) (k17 : PySem.W.keepIn K (.ref f17) = true)
    (a18 : PySem.W.nsIn K mainGlobals "_law_number" = some (some (.ref f18))) (l18 : K.lookup f18 = some ⟨oc18, od18, .func (PySem.W.fnOf "_law_number" "_law_number" (defArgs s_number) (defBody s_number) (defScope s_number) .none kV18 dc18 pm18 an18 cd18 ct18), sl18⟩) (c18 : PySem.W.codeIn K cd18 "_law_number" = true) (k18 : PySem.W.keepIn K (.ref f18) = true)
    (a19 : PySem.W.nsIn K mainGlobals "_law_lowest" = some (some (.ref f19))) (l19 : K.lookup f19 = some ⟨oc19, od19, .func (PySem.W.fnOf "_law_lowest" "_law_lowest" (defArgs s_lowest) (defBody s_lowest) (defScope s_lowest) .none kV19 dc19 pm19 an19 cd19 ct19), sl19⟩) (c19 : PySem.W.codeIn K cd19 "_law_lowest" = true) (k19 : PySem.W.keepIn K (.ref f19) = true)
    (a20 : PySem.W.nsIn K mainGlobals "_law_share" = some (some (.ref f20))) (l20 : K.lookup f20 = some ⟨oc20, od20, .func (PySem.W.fnOf "_law_share" "_law_share" (defArgs s_share) (defBody s_share) (defScope s_share) .none kV20 dc20 pm20 an20 cd20 ct20), sl20⟩) (c20 : PySem.W.codeIn K cd20 "_law_share" = true) (k20 : PySem.W.keepIn K (.ref f20) = true)
    (a21 : PySem.W.nsIn K mainGlobals "_law_bells" = some (some (.ref f21))) (l21 : K.lookup f21 = some ⟨oc21, od21, .func (PySem.W.fnOf "_law_bells" "_law_bells" (defArgs s_bells) (defBody s_bells) (defScope s_bells) .none kV21 dc21 pm21 an21 cd21 ct21), sl21⟩) (c21 : PySem.W.codeIn K cd21 "_law_bells" = true) (k21 : PySem.W.keepIn K (.ref f21) = true)
    (a22 : PySem.W.nsIn K mainGlobals "_law_wish" = some (some (.ref f22))) (l22 : K.lookup f22 = some ⟨oc22, od22, .func (PySem.W.fnOf "_law_wish" "_law_wish" (defArgs s_wish) (defBody s_wish) (defScope s_wish) .none kV22 dc22 pm22 an22 cd22 ct22), sl22⟩) (c22 : PySem.W.codeIn K cd22 "_law_wish" = true) (k22 : PySem.W.keepIn K (.ref f22) = true)
    (a23 : PySem.W.nsIn K mainGlobals "_law_steps" = some (some (.ref f23))) (l23 : K.lookup f23 = some ⟨oc23, od23, .func (PySem.W.fnOf "_law_steps" "_law_steps" (defArgs s_steps) (defBody s_steps) (defScope s_steps) .none kV23 dc23 pm23 an23 cd23 ct23), sl23⟩) (c23 : PySem.W.codeIn K cd23 "_law_steps" = true) (k23 : PySem.W.keepIn K (.ref f23) = true)
    (a24 : PySem.W.nsIn K mainGlobals "_law_sum" = some (some (.ref f24))) (l24 : K.lookup f24 = some ⟨oc24, od24, .func (PySem.W.fnOf "_law_sum" "_law_sum" (defArgs s_sum) (defBody s_sum) (defScope s_sum) .none kV24 dc24 pm24 an24 cd24 ct24), sl24⟩) (c24 : PySem.W.codeIn K cd24 "_law_sum" = true) (k24 : PySem.W.keepIn K (.ref f24) = true)
    (a25 : PySem.W.nsIn K mainGlobals "_law_less" = some (some (.ref f25))) (l25 : K.lookup f25 = some ⟨oc25, od25, .func (PySem.W.fnOf "_law_less" "_law_less" (defArgs s_less) (defBody s_less) (defScope s_less) .none kV25 dc25 pm25 an25 cd25 ct25), sl25⟩) (c25 : PySem.W.codeIn K cd25 "_law_less" = true) (k25 : PySem.W.keepIn K (.ref f25) = true)
    (a26 : PySem.W.nsIn K mainGlobals "_law_alike" = some (some (.ref f26))) (l26 : K.lookup f26 = some ⟨oc26, od26, .func (PySem.W.fnOf "_law_alike" "_law_alike" (defArgs s_alike) (defBody s_alike) (defScope s_alike) .none kV26 dc26 pm26 an26 cd26 ct26), sl26⟩) (c26 : PySem.W.codeIn K cd26 "_law_alike" = true) (k26 : PySem.W.keepIn K (.ref f26) = true)
    (a27 : PySem.W.nsIn K mainGlobals "_law_is_lowest" = some (some (.ref f27))) (l27 : K.lookup f27 = some ⟨oc27, od27, .func (PySem.W.fnOf "_law_is_lowest" "_law_is_lowest" (defArgs s_is_lowest) (defBody s_is_lowest) (defScope s_is_lowest) .none kV27 dc27 pm27 an27 cd27 ct27), sl27⟩) (c27 : PySem.W.codeIn K cd27 "_law_is_lowest" = true) (k27 : PySem.W.keepIn K (.ref f27) = true)
    (a28 : PySem.W.nsIn K mainGlobals "_law_base" = some (some (.ref f28))) (l28 : K.lookup f28 = some ⟨oc28, od28, .func (PySem.W.fnOf "_law_base" "_law_base" (defArgs s_base) (defBody s_base) (defScope s_base) .none kV28 dc28 pm28 an28 cd28 ct28), sl28⟩) (c28 : PySem.W.codeIn K cd28 "_law_base" = true) (k28 : PySem.W.keepIn K (.ref f28) = true)
    (a29 : PySem.W.nsIn K mainGlobals "_law_are_least" = some (some (.ref f29))) (l29 : K.lookup f29 = some ⟨oc29, od29, .func (PySem.W.fnOf "_law_are_least" "_law_are_least" (defArgs s_are_least) (defBody s_are_least) (defScope s_are_least) .none kV29 dc29 pm29 an29 cd29 ct29), sl29⟩) (c29 : PySem.W.codeIn K cd29 "_law_are_least" = true) (k29 : PySem.W.keepIn K (.ref f29) = true)
    (a30 : PySem.W.nsIn K mainGlobals "_law_is_ring" = some (some (.ref f30))) (l30 : K.lookup f30 = some ⟨oc30, od30, .func (PySem.W.fnOf "_law_is_ring" "_law_is_ring" (defArgs s_is_ring) (defBody s_is_ring) (defScope s_is_ring) .none kV30 dc30 pm30 an30 cd30 ct30), sl30⟩) (c30 : PySem.W.codeIn K cd30 "_law_is_ring" = true) (k30 : PySem.W.keepIn K (.ref f30) = true)
    (a31 : PySem.W.nsIn K mainGlobals "_law_eased" = some (some (.ref f31))) (l31 : K.lookup f31 = some ⟨oc31, od31, .func (PySem.W.fnOf "_law_eased" "_law_eased" (defArgs s_eased) (defBody s_eased) (defScope s_eased) .none kV31 dc31 pm31 an31 cd31 ct31), sl31⟩) (c31 : PySem.W.codeIn K cd31 "_law_eased" = true) (k31 : PySem.W.keepIn K (.ref f31) = true)
    (a32 : PySem.W.nsIn K mainGlobals "_law_right" = some (some (.ref f32))) (l32 : K.lookup f32 = some ⟨oc32, od32, .func (PySem.W.fnOf "_law_right" "_law_right" (defArgs s_right) (defBody s_right) (defScope s_right) .none kV32 dc32 pm32 an32 cd32 ct32), sl32⟩) (c32 : PySem.W.codeIn K cd32 "_law_right" = true) (k32 : PySem.W.keepIn K (.ref f32) = true)
    (a33 : PySem.W.nsIn K mainGlobals "_law_no_earlier" = some (some (.ref f33))) (l33 : K.lookup f33 = some ⟨oc33, od33, .func (PySem.W.fnOf "_law_no_earlier" "_law_no_earlier" (defArgs s_no_earlier) (defBody s_no_earlier) (defScope s_no_earlier) .none kV33 dc33 pm33 an33 cd33 ct33), sl33⟩) (c33 : PySem.W.codeIn K cd33 "_law_no_earlier" = true) (k33 : PySem.W.keepIn K (.ref f33) = true)
    (a34 : PySem.W.nsIn K mainGlobals "law" = some (some (.ref f34))) (l34 : K.lookup f34 = some ⟨oc34, od34, .func (PySem.W.fnOf "law" "law" (defArgs s_law) (defBody s_law) (defScope s_law) .none kV34 dc34 pm34 an34 cd34 ct34), sl34⟩) (c34 : PySem.W.codeIn K cd34 "law" = true) (k34 : PySem.W.keepIn K (.ref f34) = true)
    (gl_LETTERS : PySem.W.nsIn K mainGlobals "LETTERS" = some (some (.str "abcdefghijklmnopqrstuvwxyz" tk_LETTERS)))
    (gl_MOST_LETTERS : PySem.W.nsIn K mainGlobals "MOST_LETTERS" = some (some (.int 8 tk_MOST_LETTERS)))
    (gl_MOST_PARTS : PySem.W.nsIn K mainGlobals "MOST_PARTS" = some (some (.int 4 tk_MOST_PARTS)))
    (z_int : PySem.W.nsIn K mainGlobals "int" = some none)
    (z_bool : PySem.W.nsIn K mainGlobals "bool" = some none)
    (z_str : PySem.W.nsIn K mainGlobals "str" = some none)
    (z_list : PySem.W.nsIn K mainGlobals "list" = some none)
    (z_tuple : PySem.W.nsIn K mainGlobals "tuple" = some none)
    (z_dict : PySem.W.nsIn K mainGlobals "dict" = some none)
    (z_set : PySem.W.nsIn K mainGlobals "set" = some none)
    (z_range : PySem.W.nsIn K mainGlobals "range" = some none)
    (z_enumerate : PySem.W.nsIn K mainGlobals "enumerate" = some none)
    (z_zip : PySem.W.nsIn K mainGlobals "zip" = some none)
    (z_reversed : PySem.W.nsIn K mainGlobals "reversed" = some none)
    (z_len : PySem.W.nsIn K mainGlobals "len" = some none)
    (z_abs : PySem.W.nsIn K mainGlobals "abs" = some none)
    (z_max : PySem.W.nsIn K mainGlobals "max" = some none)
    (z_min : PySem.W.nsIn K mainGlobals "min" = some none)
    (z_isinstance : PySem.W.nsIn K mainGlobals "isinstance" = some none)
    (z_sorted : PySem.W.nsIn K mainGlobals "sorted" = some none)
    (z_all : PySem.W.nsIn K mainGlobals "all" = some none)
    (z_any : PySem.W.nsIn K mainGlobals "any" = some none)
    (z_sum : PySem.W.nsIn K mainGlobals "sum" = some none) :
    ∃ fd : FuncData, (∀ (s : Shared) (v : Value), BindsTo s fd ⟨[v], []⟩ [("_law_script", v)]) ∧ ∀ base : Heap, K.In base → base.Ns mainGlobals mg → FnOk l.prog w K mg base CX0 8 fa fd ["_law_script"] (spLaw K) := by
  have e := hfa.symm.trans (PySem.W.mg_of X G a34)
  cases e
  have T : Bl mg := ⟨PySem.W.mg_none_of X G z_int, PySem.W.mg_none_of X G z_bool, PySem.W.mg_none_of X G z_str, PySem.W.mg_none_of X G z_list, PySem.W.mg_none_of X G z_tuple, PySem.W.mg_none_of X G z_dict, PySem.W.mg_none_of X G z_set, PySem.W.mg_none_of X G z_range, PySem.W.mg_none_of X G z_enumerate, PySem.W.mg_none_of X G z_zip, PySem.W.mg_none_of X G z_reversed, PySem.W.mg_none_of X G z_len, PySem.W.mg_none_of X G z_abs, PySem.W.mg_none_of X G z_max, PySem.W.mg_none_of X G z_min, PySem.W.mg_none_of X G z_isinstance, PySem.W.mg_none_of X G z_sorted, PySem.W.mg_none_of X G z_all, PySem.W.mg_none_of X G z_any, PySem.W.mg_none_of X G z_sum⟩
  have d_is_whole : Df K mg "is_whole" s_is_whole ["thing"] := df_mk X G a0 l0 c0 k0 (el_1 fun _ => rfl)
  have d_common_divisor : Df K mg "common_divisor" s_common_divisor ["one", "other"] := df_mk X G a1 l1 c1 k1 (el_2 fun _ _ => rfl)
  have d_is_fraction : Df K mg "is_fraction" s_is_fraction ["thing"] := df_mk X G a2 l2 c2 k2 (el_1 fun _ => rfl)
  have d_added : Df K mg "added" s_added ["one", "other"] := df_mk X G a3 l3 c3 k3 (el_2 fun _ _ => rfl)
  have d_is_less : Df K mg "is_less" s_is_less ["one", "other"] := df_mk X G a4 l4 c4 k4 (el_2 fun _ _ => rfl)
  have d_is_moment : Df K mg "is_moment" s_is_moment ["thing"] := df_mk X G a5 l5 c5 k5 (el_1 fun _ => rfl)
  have d_is_part : Df K mg "is_part" s_is_part ["text"] := df_mk X G a6 l6 c6 k6 (el_1 fun _ => rfl)
  have d_is_post : Df K mg "is_post" s_is_post ["thing"] := df_mk X G a7 l7 c7 k7 (el_1 fun _ => rfl)
  have d_is_pair : Df K mg "is_pair" s_is_pair ["one", "other"] := df_mk X G a8 l8 c8 k8 (el_2 fun _ _ => rfl)
  have d_is_wish : Df K mg "is_wish" s_is_wish ["thing"] := df_mk X G a9 l9 c9 k9 (el_1 fun _ => rfl)
  have d_refuse_no_wishes : Df K mg "refuse_no_wishes" s_refuse_no_wishes ["wishes"] := df_mk X G a10 l10 c10 k10 (el_1 fun _ => rfl)
  have d_steps_by : Df K mg "steps_by" s_steps_by ["number", "wish"] := df_mk X G a11 l11 c11 k11 (el_2 fun _ _ => rfl)
  have d_steps_of : Df K mg "steps_of" s_steps_of ["wishes"] := df_mk X G a12 l12 c12 k12 (el_1 fun _ => rfl)
  have d_first_moments : Df K mg "first_moments" s_first_moments ["wishes"] := df_mk X G a13 l13 c13 k13 (el_1 fun _ => rfl)
  have d_put_off : Df K mg "put_off" s_put_off ["steps", "moments", "causes"] := df_mk X G a14 l14 c14 k14 (el_3 fun _ _ _ => rfl)
  have d_ring_behind : Df K mg "ring_behind" s_ring_behind ["bell", "causes"] := df_mk X G a15 l15 c15 k15 (el_2 fun _ _ => rfl)
  have d_played_at : Df K mg "played_at" s_played_at ["wishes"] := df_mk X G a16 l16 c16 k16 (el_1 fun _ => rfl)
  have d_cell_at : Df K mg "_law_cell_at" s_cell_at ["_law_script", "_law_k"] := df_mk X G a17 l17 c17 k17 (el_2 fun _ _ => rfl)
  have d_number : Df K mg "_law_number" s_number ["_law_script", "_law_k"] := df_mk X G a18 l18 c18 k18 (el_2 fun _ _ => rfl)
  have d_lowest : Df K mg "_law_lowest" s_lowest ["_law_top", "_law_bottom"] := df_mk X G a19 l19 c19 k19 (el_2 fun _ _ => rfl)
  have d_share : Df K mg "_law_share" s_share ["_law_number_here"] := df_mk X G a20 l20 c20 k20 (el_1 fun _ => rfl)
  have d_bells : Df K mg "_law_bells" s_bells ["_law_script", "_law_most"] := df_mk X G a21 l21 c21 k21 (el_2 fun _ _ => rfl)
  have d_wish : Df K mg "_law_wish" s_wish ["_law_number_here", "_law_bells_here"] := df_mk X G a22 l22 c22 k22 (el_2 fun _ _ => rfl)
  have d_steps : Df K mg "_law_steps" s_steps ["_law_wishes"] := df_mk X G a23 l23 c23 k23 (el_1 fun _ => rfl)
  have d_sum : Df K mg "_law_sum" s_sum ["_law_one", "_law_other"] := df_mk X G a24 l24 c24 k24 (el_2 fun _ _ => rfl)
  have d_less : Df K mg "_law_less" s_less ["_law_one", "_law_other"] := df_mk X G a25 l25 c25 k25 (el_2 fun _ _ => rfl)
  have d_alike : Df K mg "_law_alike" s_alike ["_law_one", "_law_other"] := df_mk X G a26 l26 c26 k26 (el_2 fun _ _ => rfl)
  have d_is_lowest : Df K mg "_law_is_lowest" s_is_lowest ["_law_found"] := df_mk X G a27 l27 c27 k27 (el_1 fun _ => rfl)
  have d_base : Df K mg "_law_base" s_base ["_law_wishes"] := df_mk X G a28 l28 c28 k28 (el_1 fun _ => rfl)
  have d_are_least : Df K mg "_law_are_least" s_are_least ["_law_moments", "_law_wishes"] := df_mk X G a29 l29 c29 k29 (el_2 fun _ _ => rfl)
  have d_is_ring : Df K mg "_law_is_ring" s_is_ring ["_law_ring", "_law_wishes"] := df_mk X G a30 l30 c30 k30 (el_2 fun _ _ => rfl)
  have d_eased : Df K mg "_law_eased" s_eased ["_law_wish_here", "_law_number_here"] := df_mk X G a31 l31 c31 k31 (el_2 fun _ _ => rfl)
  have d_right : Df K mg "_law_right" s_right ["_law_found", "_law_wishes"] := df_mk X G a32 l32 c32 k32 (el_2 fun _ _ => rfl)
  have d_no_earlier : Df K mg "_law_no_earlier" s_no_earlier ["_law_ahead", "_law_found"] := df_mk X G a33 l33 c33 k33 (el_2 fun _ _ => rfl)
  have FL := fun_mk (st := s_law) l34 c34 k34
  refine ⟨PySem.W.fnOf "law" "law" (defArgs s_law) (defBody s_law) (defScope s_law) .none kV34 dc34 pm34 an34 cd34 ct34, fun s v => .of_eq rfl, fun base _ _ => ?_⟩
  have o_is_whole : Okf l.prog w K mg base 1 "is_whole" ["thing"]   (spWhole K) := ok_is_whole (k := 0) T d_is_whole
  have o_common_divisor : Okf l.prog w K mg base 1 "common_divisor" ["one", "other"]   spGcd := ok_common_divisor (k := 0) T d_common_divisor
  have o_is_fraction : Okf l.prog w K mg base 2 "is_fraction" ["thing"]   (spIsFrac K) := ok_is_fraction (k := 1) T d_is_fraction (o_common_divisor.mono (by decide)) (o_is_whole.mono (by decide))
  have o_added : Okf l.prog w K mg base 2 "added" ["one", "other"]   spAddQ := ok_added (k := 1) T d_added (o_common_divisor.mono (by decide))
  have o_is_less : Okf l.prog w K mg base 1 "is_less" ["one", "other"]   spLessQ := ok_is_less (k := 0) T d_is_less
  have o_is_moment : Okf l.prog w K mg base 3 "is_moment" ["thing"]   (spMomQ K) := ok_is_moment (k := 2) T d_is_moment (o_is_fraction.mono (by decide))
  have o_is_part : Okf l.prog w K mg base 1 "is_part" ["text"]   spPart := ok_is_part (k := 0) T d_is_part (PySem.W.mg_of X G gl_LETTERS) (PySem.W.mg_of X G gl_MOST_LETTERS)
  have o_is_post : Okf l.prog w K mg base 2 "is_post" ["thing"]   (spPost K) := ok_is_post (k := 1) T d_is_post (PySem.W.mg_of X G gl_MOST_PARTS) (o_is_part.mono (by decide))
  have o_is_pair : Okf l.prog w K mg base 3 "is_pair" ["one", "other"]   (spPairQ K) := ok_is_pair (k := 2) T d_is_pair (o_is_post.mono (by decide))
  have o_is_wish : Okf l.prog w K mg base 4 "is_wish" ["thing"]   (spIsWish K) := ok_is_wish (k := 3) T d_is_wish (o_is_pair.mono (by decide)) (o_is_moment.mono (by decide)) (o_is_post.mono (by decide)) (o_is_fraction.mono (by decide))
  have o_refuse_no_wishes : Okf l.prog w K mg base 5 "refuse_no_wishes" ["wishes"]   spRefuse := ok_refuse_no_wishes (k := 4) T d_refuse_no_wishes (o_is_wish.mono (by decide))
  have o_steps_by : Okf l.prog w K mg base 1 "steps_by" ["number", "wish"]   spStepsBy := ok_steps_by (k := 0) T d_steps_by
  have o_steps_of : Okf l.prog w K mg base 6 "steps_of" ["wishes"]   spStepsOf := ok_steps_of (k := 5) T d_steps_of (o_steps_by.mono (by decide)) (o_refuse_no_wishes.mono (by decide))
  have o_first_moments : Okf l.prog w K mg base 2 "first_moments" ["wishes"]   spFirst := ok_first_moments (k := 1) T d_first_moments (o_is_less.mono (by decide))
  have o_put_off : Okf l.prog w K mg base 3 "put_off" ["steps", "moments", "causes"]   spPut := ok_put_off (k := 2) T d_put_off (o_is_less.mono (by decide)) (o_added.mono (by decide))
  have o_ring_behind : Okf l.prog w K mg base 1 "ring_behind" ["bell", "causes"]   spRingB := ok_ring_behind (k := 0) T d_ring_behind
  have o_played_at : Okf l.prog w K mg base 7 "played_at" ["wishes"]   spPlayed := ok_played_at (k := 6) T d_played_at (o_ring_behind.mono (by decide)) (o_put_off.mono (by decide)) (o_first_moments.mono (by decide)) (o_steps_of.mono (by decide))
  have o_cell_at : Okf l.prog w K mg base 1 "_law_cell_at" ["_law_script", "_law_k"]   (spCell K) := ok_cell_at (k := 0) T d_cell_at
  have o_number : Okf l.prog w K mg base 2 "_law_number" ["_law_script", "_law_k"]   (spNumW K) := ok_number (k := 1) T d_number (o_cell_at.mono (by decide))
  have o_lowest : Okf l.prog w K mg base 1 "_law_lowest" ["_law_top", "_law_bottom"]   spLowest := ok_lowest (k := 0) T d_lowest
  have o_share : Okf l.prog w K mg base 2 "_law_share" ["_law_number_here"]   spShareW2 := ok_share (k := 1) T d_share (o_lowest.mono (by decide))
  have o_bells : Okf l.prog w K mg base 3 "_law_bells" ["_law_script", "_law_most"]   (spBells K) := ok_bells (k := 2) T d_bells (o_number.mono (by decide))
  have o_wish : Okf l.prog w K mg base 3 "_law_wish" ["_law_number_here", "_law_bells_here"]   (spWish2 K) := ok_wish (k := 2) T d_wish (o_share.mono (by decide))
  have o_steps : Okf l.prog w K mg base 1 "_law_steps" ["_law_wishes"]   spLSteps := ok_steps (k := 0) T d_steps
  have o_sum : Okf l.prog w K mg base 1 "_law_sum" ["_law_one", "_law_other"]   spSumW := ok_sum (k := 0) T d_sum
  have o_less : Okf l.prog w K mg base 1 "_law_less" ["_law_one", "_law_other"]   spLessW := ok_less (k := 0) T d_less
  have o_alike : Okf l.prog w K mg base 1 "_law_alike" ["_law_one", "_law_other"]   spAlikeW := ok_alike (k := 0) T d_alike
  have o_is_lowest : Okf l.prog w K mg base 2 "_law_is_lowest" ["_law_found"]   spIsLow := ok_is_lowest (k := 1) T d_is_lowest (o_lowest.mono (by decide))
  have o_base : Okf l.prog w K mg base 2 "_law_base" ["_law_wishes"]   spBaseW := ok_base (k := 1) T d_base (o_less.mono (by decide))
  have o_are_least : Okf l.prog w K mg base 3 "_law_are_least" ["_law_moments", "_law_wishes"]   spLeastW := ok_are_least (k := 2) T d_are_least (o_alike.mono (by decide)) (o_steps.mono (by decide)) (o_less.mono (by decide)) (o_sum.mono (by decide)) (o_is_lowest.mono (by decide)) (o_base.mono (by decide))
  have o_is_ring : Okf l.prog w K mg base 2 "_law_is_ring" ["_law_ring", "_law_wishes"]   spIsRing := ok_is_ring (k := 1) T d_is_ring (o_sum.mono (by decide)) (o_steps.mono (by decide))
  have o_eased : Okf l.prog w K mg base 1 "_law_eased" ["_law_wish_here", "_law_number_here"]   spEased := ok_eased (k := 0) T d_eased
  have o_right : Okf l.prog w K mg base 4 "_law_right" ["_law_found", "_law_wishes"]   spRightW := ok_right (k := 3) T d_right (o_are_least.mono (by decide)) (o_is_ring.mono (by decide))
  have o_no_earlier : Okf l.prog w K mg base 2 "_law_no_earlier" ["_law_ahead", "_law_found"]   spNoEar := ok_no_earlier (k := 1) T d_no_earlier (o_less.mono (by decide))
  exact ok_law (k := 7) T FL (o_no_earlier.mono (by decide)) (o_right.mono (by decide)) (o_played_at.mono (by decide)) (o_number.mono (by decide)) (o_eased.mono (by decide)) (o_wish.mono (by decide)) (o_bells.mono (by decide))
theorem walk {l : PySem.W.OpenLaw} {q : Program} {loose : List Str} {XP : (Str → Option Value) → Heap → Prop} {YP : World → Heap → Prop} {d : DefRec} {K : Params → PySem.W.Frag} (hn : l.most = some 63) (hdf : d.params.defaults = [])
    (hY : ∀ (w : World) (h : Heap), YP w h → (K w.params).In h)
    (F : ∀ (w : World) (mg : Str → Option Value) (fa : Addr) (h : Heap), (K w.params).In h → h.Ns mainGlobals mg → mg d.name = some (.ref fa) →
      ∃ fd : FuncData, (∀ (s : Shared) (u : Value), BindsTo s fd ⟨[u], []⟩ [("_law_script", u)]) ∧ ∀ base : Heap, (K w.params).In base → base.Ns mainGlobals mg → FnOk l.prog w (K w.params) mg base CX0 8 fa fd ["_law_script"] (spLaw (K w.params))) :
    PySem.W.WalkO q loose XP YP l.row.toRowW d [] (fun f vs => PySem.call f vs) :=
  L2.walk_of (n := 63) (k := 8) (x := "_law_script") (CX := fun _ => CX0) (sp := fun w => spLaw (K w.params)) hn (by decide) hdf ⟨rfl, by decide, by decide⟩ hY F (fun _ _ a ns hl _ hS => ⟨a, ns, rfl, hS, hl, fun _ => rfl⟩) fun _ _ _ _ _ z => z
open PySem.W in
theorem zwalk {q : Program} {loose : List Str} {XP : (Str → Option Value) → Heap → Prop} {r : RowW} {d : DefRec} {kwd : List (Str × Expr)} {run : Value → List Value → Sem Value} {K : Params → Frag} {as : List Addr} {n t : Nat} (e : ∀ P : Params, as = List.map (fun x => x.fst) (K P))
    (W : WalkO q loose XP (kHook K as e).says r d kwd run) : WalkX q loose XP (X.obsZ as) (X.valZ K n t) r d kwd run :=
  fun w s₀ s₁ mg mb G y a o pm cd doc dV kV ho hd hcd hD hmg hg args vals as' L hpre hlay hrd hwl hlo =>
    W w s₀ s₁ mg mb G ((kHook K as e).keeps w s₀.heap s₁.heap ((kHook K as e).of w s₀ (congrArg Prod.fst y)) L.keeps) a o pm cd doc dV kV ho hd hcd hD hmg hg args vals as' hpre hlay hrd hwl hlo
end Lw
open PySem PySem.W PyProof.Rows
set_option maxRecDepth 100000 in
set_option maxHeartbeats 0 in
theorem PySem.Challenge.cw_tilefall_k55_whole_met_or_ring_holds : PySem.Challenge.rw_tilefall_k55_whole_met_or_ring.Holds := by
  w_on; o_law; z_head; (case hw => w_witness2)
  k_fill
  refine Lw.zwalk (fun _ => rfl) ?_
  refine Lw.walk (l := PySem.Challenge.rw_tilefall_k55_whole_met_or_ring) rfl rfl (fun w h Y => PySem.W.kIn_of Y) ?F
  case F =>
    intro w mg fa h KX G hmg
    refine' Lw.all_mk KX G hmg ?a0 ?l0 ?c0 ?k0 ?a1 ?l1 ?c1 ?k1 ?a2 ?l2 ?c2 ?k2 ?a3 ?l3 ?c3 ?k3 ?a4 ?l4 ?c4 ?k4 ?a5 ?l5 ?c5 ?k5 ?a6 ?l6 ?c6 ?k6 ?a7 ?l7 ?c7 ?k7 ?a8 ?l8 ?c8 ?k8 ?a9 ?l9 ?c9 ?k9 ?a10 ?l10 ?c10 ?k10 ?a11 ?l11 ?c11 ?k11 ?a12 ?l12 ?c12 ?k12 ?a13 ?l13 ?c13 ?k13 ?a14 ?l14 ?c14 ?k14 ?a15 ?l15 ?c15 ?k15 ?a16 ?l16 ?c16 ?k16 ?a17 ?l17 ?c17 ?k17 ?a18 ?l18 ?c18 ?k18 ?a19 ?l19 ?c19 ?k19 ?a20 ?l20 ?c20 ?k20 ?a21 ?l21 ?c21 ?k21 ?a22 ?l22 ?c22 ?k22 ?a23 ?l23 ?c23 ?k23 ?a24 ?l24 ?c24 ?k24 ?a25 ?l25 ?c25 ?k25 ?a26 ?l26 ?c26 ?k26 ?a27 ?l27 ?c27 ?k27 ?a28 ?l28 ?c28 ?k28 ?a29 ?l29 ?c29 ?k29 ?a30 ?l30 ?c30 ?k30 ?a31 ?l31 ?c31 ?k31 ?a32 ?l32 ?c32 ?k32 ?a33 ?l33 ?c33 ?k33 ?a34 ?l34 ?c34 ?k34 ?gl_LETTERS ?gl_MOST_LETTERS ?gl_MOST_PARTS ?z_int ?z_bool ?z_str ?z_list ?z_tuple ?z_dict ?z_set ?z_range ?z_enumerate ?z_zip ?z_reversed ?z_len ?z_abs ?z_max ?z_min ?z_isinstance ?z_sorted ?z_all ?z_any ?z_sum
    (case a0 => k_is); (case l0 => k_is); (case c0 => k_is); (case k0 => k_is)
    (case a1 => k_is); (case l1 => k_is); (case c1 => k_is); (case k1 => k_is)
    (case a2 => k_is); (case l2 => k_is); (case c2 => k_is); (case k2 => k_is)
    (case a3 => k_is); (case l3 => k_is); (case c3 => k_is); (case k3 => k_is)
    (case a4 => k_is); (case l4 => k_is); (case c4 => k_is); (case k4 => k_is)
    (case a5 => k_is); (case l5 => k_is); (case c5 => k_is); (case k5 => k_is)
    (case a6 => k_is); (case l6 => k_is); (case c6 => k_is); (case k6 => k_is)
    (case a7 => k_is); (case l7 => k_is); (case c7 => k_is); (case k7 => k_is)
    (case a8 => k_is); (case l8 => k_is); (case c8 => k_is); (case k8 => k_is)
    (case a9 => k_is); (case l9 => k_is); (case c9 => k_is); (case k9 => k_is)
    (case a10 => k_is); (case l10 => k_is); (case c10 => k_is); (case k10 => k_is)
    (case a11 => k_is); (case l11 => k_is); (case c11 => k_is); (case k11 => k_is)
    (case a12 => k_is); (case l12 => k_is); (case c12 => k_is); (case k12 => k_is)
    (case a13 => k_is); (case l13 => k_is); (case c13 => k_is); (case k13 => k_is)
    (case a14 => k_is); (case l14 => k_is); (case c14 => k_is); (case k14 => k_is)
    (case a15 => k_is); (case l15 => k_is); (case c15 => k_is); (case k15 => k_is)
    (case a16 => k_is); (case l16 => k_is); (case c16 => k_is); (case k16 => k_is)
    (case a17 => k_is); (case l17 => k_is); (case c17 => k_is); (case k17 => k_is)
    (case a18 => k_is); (case l18 => k_is); (case c18 => k_is); (case k18 => k_is)
    (case a19 => k_is); (case l19 => k_is); (case c19 => k_is); (case k19 => k_is)
    (case a20 => k_is); (case l20 => k_is); (case c20 => k_is); (case k20 => k_is)
    (case a21 => k_is); (case l21 => k_is); (case c21 => k_is); (case k21 => k_is)
    (case a22 => k_is); (case l22 => k_is); (case c22 => k_is); (case k22 => k_is)
    (case a23 => k_is); (case l23 => k_is); (case c23 => k_is); (case k23 => k_is)
    (case a24 => k_is); (case l24 => k_is); (case c24 => k_is); (case k24 => k_is)
    (case a25 => k_is); (case l25 => k_is); (case c25 => k_is); (case k25 => k_is)
    (case a26 => k_is); (case l26 => k_is); (case c26 => k_is); (case k26 => k_is)
    (case a27 => k_is); (case l27 => k_is); (case c27 => k_is); (case k27 => k_is)
    (case a28 => k_is); (case l28 => k_is); (case c28 => k_is); (case k28 => k_is)
    (case a29 => k_is); (case l29 => k_is); (case c29 => k_is); (case k29 => k_is)
    (case a30 => k_is); (case l30 => k_is); (case c30 => k_is); (case k30 => k_is)
    (case a31 => k_is); (case l31 => k_is); (case c31 => k_is); (case k31 => k_is)
    (case a32 => k_is); (case l32 => k_is); (case c32 => k_is); (case k32 => k_is)
    (case a33 => k_is); (case l33 => k_is); (case c33 => k_is); (case k33 => k_is)
    (case a34 => k_is); (case l34 => k_is); (case c34 => k_is); (case k34 => k_is)
    (case gl_LETTERS => k_is)
    (case gl_MOST_LETTERS => k_is)
    (case gl_MOST_PARTS => k_is)
    (case z_int => k_is)
    (case z_bool => k_is)
    (case z_str => k_is)
    (case z_list => k_is)
    (case z_tuple => k_is)
    (case z_dict => k_is)
    (case z_set => k_is)
    (case z_range => k_is)
    (case z_enumerate => k_is)
    (case z_zip => k_is)
    (case z_reversed => k_is)
    (case z_len => k_is)
    (case z_abs => k_is)
    (case z_max => k_is)
    (case z_min => k_is)
    (case z_isinstance => k_is)
    (case z_sorted => k_is)
    (case z_all => k_is)
    (case z_any => k_is)
    (case z_sum => k_is)
#print axioms PySem.Challenge.cw_tilefall_k55_whole_met_or_ring_holds
