import PyProof.Rows.All
import Wide.All
import OpenK.AllK
import Wide.FinOn
import Lean
import PyProof.EqAt
import PyProof.EqKinds
import PyProof.TupleCall
import PyProof.NeKinds
import PySem.Challenge.RW_tilefall_k71_rows_read
set_option Elab.async false
set_option linter.all false
set_option maxRecDepth 100000
namespace L2
open PySem PySem.Spec PyProof.Rows
noncomputable abbrev Key:=Sum Int Str
noncomputable def keyIs:Key -> Value -> Bool
  | .inl k,v => Value.isInt k v
  | .inr x,v => Value.isStrOf x v
noncomputable def keyH (w:World):Key -> Int
  | .inl k => hashInt k
  | .inr x => hashStr w x
theorem keyIs_shape:∀ {k:Key} {v:Value},keyIs k v = true -> (∃ i t,k = Sum.inl i /\ v = Value.int i t) ∨ (∃ x t,k = Sum.inr x /\ v = Value.str x t)
  | .inl i,v,h => by
    obtain ⟨t,e⟩:=Value.isInt_shape (k:=i) (v:=v) h
    exact .inl ⟨i,t,rfl,e⟩
  | .inr x,v,h => by
    obtain ⟨t,e⟩:=Value.isStrOf_shape (x:=x) (v:=v) h
    exact .inr ⟨x,t,rfl,e⟩
theorem keyIs_int (i:Int) (t:Tok):keyIs (.inl i) (.int i t) = true:=by simp [keyIs,Value.isInt]
theorem keyIs_str (x:Str) (t:Tok):keyIs (.inr x) (.str x t) = true:=by simp [keyIs,Value.isStrOf]
theorem key_ll (a b:Int):decide ((Sum.inl a:Key) = Sum.inl b) = (a == b):=by
  by_cases e:a = b
  . subst e; simp
  . have h:¬ (Sum.inl a:Key) = Sum.inl b:=fun q => e (Sum.inl.inj q)
    rw [decide_eq_false h]
    exact (beq_eq_false_iff_ne.mpr e).symm
theorem key_rr (a b:Str):decide ((Sum.inr a:Key) = Sum.inr b) = decide (a = b):=by
  by_cases e:a = b
  . subst e; simp
  . have h:¬ (Sum.inr a:Key) = Sum.inr b:=fun q => e (Sum.inr.inj q)
    rw [decide_eq_false h,decide_eq_false e]
theorem key_lr (a:Int) (b:Str):decide ((Sum.inl a:Key) = Sum.inr b) = false:=decide_eq_false (fun q => nomatch q)
theorem key_rl (a:Str) (b:Int):decide ((Sum.inr a:Key) = Sum.inl b) = false:=decide_eq_false (fun q => nomatch q)
noncomputable def mixKind (prog:Program) (w:World):PySem.KeyKind prog w Key where
  is:=keyIs
  hash:=keyH w
  inj:=fun v a b ha hb => by
    rcases keyIs_shape ha with ⟨i,t,rfl,rfl⟩ | ⟨x,t,rfl,rfl⟩
    . rcases keyIs_shape hb with ⟨j,u,rfl,e⟩ | ⟨y,u,rfl,e⟩
      . injection e with e1 _; rw [e1]
      . exact nomatch e
    . rcases keyIs_shape hb with ⟨j,u,rfl,e⟩ | ⟨y,u,rfl,e⟩
      . exact nomatch e
      . injection e with e1 _; rw [e1]
  byValue:=fun k v h => by
    rcases keyIs_shape h with ⟨i,t,rfl,rfl⟩ | ⟨x,t,rfl,rfl⟩ <;> rfl
  pyHash:=fun hv h => by
    rcases keyIs_shape hv with ⟨i,t,rfl,rfl⟩ | ⟨x,t,rfl,rfl⟩
    . exact wpAny_pyHash_int h
    . exact wpAny_pyHash_str h
  eqBool:=fun hu hv h => by
    rcases keyIs_shape hu with ⟨i,t,rfl,rfl⟩ | ⟨x,t,rfl,rfl⟩
    . rcases keyIs_shape hv with ⟨j,u,rfl,rfl⟩ | ⟨y,u,rfl,rfl⟩
      . rw [key_ll] at h; exact wpAny_eqBool_int h
      . rw [key_lr] at h; exact SeqAt.EqAt.int_str i t y u _ _ _ _ h
    . rcases keyIs_shape hv with ⟨j,u,rfl,rfl⟩ | ⟨y,u,rfl,rfl⟩
      . rw [key_rl] at h; exact SeqAt.EqAt.str_int x t j u _ _ _ _ h
      . rw [key_rr] at h; exact wpAny_eqBool_str h
  «strs»:=fun k x t v h => by
    rcases keyIs_shape h with ⟨i,u,rfl,e⟩ | ⟨y,u,rfl,e⟩
    . exact nomatch e
    . injection e with e1 _
      subst e1
      cases v <;> rfl
theorem mixKind_int (prog:Program) (w:World) (i:Int) (t:Tok):(mixKind prog w).is (.inl i) (.int i t) = true:=keyIs_int i t
theorem mixKind_str (prog:Program) (w:World) (x:Str) (t:Tok):(mixKind prog w).is (.inr x) (.str x t) = true:=keyIs_str x t
end L2
namespace L2
open PySem PySem.Spec PyProof.Rows
inductive V where
  | non | bl (b:Bool) | int (i:Int) | str (x:Str) | byt (b:Array UInt8) | flt (b:UInt64) | ref (a:Addr) | ty (n:String)
  deriving DecidableEq
noncomputable def RelV:V -> Value -> Prop
  | .non,u => u = Value.none
  | .bl b,u => u = Value.bool b
  | .int i,u => ∃ t,u = Value.int i t
  | .str x,u => ∃ t,u = Value.str x t
  | .byt b,u => ∃ t,u = Value.bytes b t
  | .flt b,u => ∃ t,u = Value.float b t
  | .ref a,u => u = Value.ref a
  | .ty n,u => u = Value.type n
noncomputable abbrev Vals:List V -> List Value -> Prop:=Paired RelV
theorem Vals.length {xs:List V} {us:List Value} (r:Vals xs us):xs.length = us.length:=Paired.length r
theorem Vals.get:∀ {xs:List V} {us:List Value} {i:Nat} {x:V},Vals xs us -> xs[i]? = some x -> ∃ u,us[i]? = some u /\ RelV x u
  | _,_,_,_,.nil,e => by simp at e
  | _,_,0,_,.cons r _,e => by simp at e; subst e; exact ⟨_,rfl,r⟩
  | _,_,i + 1,x,.cons _ t,e => by
    obtain ⟨u,h1,h2⟩:=Vals.get (i:=i) (x:=x) t (by simpa using e)
    exact ⟨u,by simpa using h1,h2⟩
theorem Vals.set {x:V} {u:Value} (r:RelV x u):∀ {xs:List V} {us:List Value} (i:Nat),Vals xs us -> Vals (xs.set i x) (us.set i u)
  | _,_,_,.nil => .nil
  | _,_,0,.cons _ t => .cons r t
  | _,_,i + 1,.cons q t => .cons q (Vals.set r i t)
theorem Vals.append:∀ {xs ys:List V} {us ws:List Value},Vals xs us -> Vals ys ws -> Vals (xs ++ ys) (us ++ ws)
  | _,_,_,_,.nil,s => s
  | _,_,_,_,.cons r t,s => .cons r (Vals.append t s)
theorem Vals.take:∀ {xs:List V} {us:List Value} (n:Nat),Vals xs us -> Vals (xs.take n) (us.take n)
  | _,_,0,_ => .nil
  | _,_,_ + 1,.nil => .nil
  | _,_,n + 1,.cons r t => .cons r (Vals.take n t)
theorem Vals.drop:∀ {xs:List V} {us:List Value} (n:Nat),Vals xs us -> Vals (xs.drop n) (us.drop n)
  | _,_,0,r => r
  | _,_,_ + 1,.nil => .nil
  | _,_,n + 1,.cons _ t => Vals.drop n t
noncomputable def RelO:Option V -> Option Value -> Prop
  | some v,some u => RelV v u
  | none,none => True
  | _,_ => False
noncomputable def KV {κ:Type}:List (κ×V) -> List (κ×Value) -> Prop:=Paired fun (p:κ×V) (q:κ×Value) => p.1 = q.1 /\ RelV p.2 q.2
noncomputable def kV:Key -> V
  | .inl i => .int i
  | .inr x => .str x
inductive HO where
    | lst (xs:List V)
    | tup (xs:List V)
    | dK (kvs:List (Key×V)) | dT (kvs:List (List Key×V))
    | set (S:Int -> Bool) (n:Nat)
    | ins (C dx:Addr) (fs:List (Str×V))
    | own (x:Addr)
    | xd (fs:List (Str×V))
    | met (f x:Addr)
    | rng (lo hi:Int)
    | frz (o:Obj) (u:HO)
    | tbl (ps:Array Value)
    | ext (φ:Heap -> Prop)
noncomputable abbrev Hp:=Addr -> Option HO
noncomputable def upd (H:Hp) (a:Addr) (o:HO):Hp:=fun b => if b = a then some o else H b
theorem upd_same {H:Hp} {a:Addr} {o:HO}:upd H a o a = some o:=by unfold upd; rw [if_pos rfl]
theorem upd_ne {H:Hp} {a b:Addr} {o:HO} (h:b ≠ a):upd H a o b = H b:=by unfold upd; rw [if_neg h]
theorem ne_of {H:Hp} {a b:Addr} {o u:HO} (h:H a = some o) (h':H b = some u) (d:o ≠ u):a ≠ b:=by
  intro e; subst e; rw [h] at h'; exact d (Option.some.inj h')
theorem ne_of_none {H:Hp} {a b:Addr} {o:HO} (h:H a = some o) (h':H b = none):a ≠ b:=by
  intro e; subst e; rw [h] at h'; cases h'
section
variable (P:Program) (w:World)
noncomputable def ObjOk (H:Hp) (h:Heap) (a:Addr):HO -> Prop
  | .lst xs => xs.length <= sizeLine /\ ∃ (its:List Value) (n:Nat),Vals xs its /\ h.get? a = some { cls:=.type "list",data:=.seq its.toArray n }
  | .tup xs => (xs.length <= sizeLine /\ ∃ o,h.get? a = some o /\ o.dict = none) /\ ∃ its:List Value,Vals xs its /\ IsTup h a its.toArray
  | .dK kvs => kvs.length <= sizeLine /\ (a == sysModules) = false /\ ∃ vs,KV kvs vs /\ h.DictOf (mixKind P w) a vs
  | .dT kvs => kvs.length <= sizeLine /\ (a == sysModules) = false /\ ∃ xs:List (List Key×Addr×Value),
      Paired (fun (p:List Key×V) (q:List Key×Addr×Value) => p.1 = q.1 /\ H q.2.1 = some (.tup (p.1.map kV)) /\ RelV p.2 q.2.2) kvs xs /\
      ∃ o es ep,h.get? a = some o /\ o.ExactDict /\ o.data = .dict es ep /\ es.toList = xs.map (entryOfKey (tupleKind (mixKind P w))) /\ (xs.map (·.1)).Nodup
  | .set S n => h.SetOf (intKind P w) a S n
  | .ins C dx fs => H dx = some (.own a) /\ fs.length <= 1000 /\ dx ≠ a /\ h.get? a = some (PySem.W.instObj C dx) /\
      ∃ mA,h.Ns1 dx mA /\ (∀ f,RelO (fs.lookup f) (mA f)) /\ PySem.Within mA (fs.map (·.1))
  | .own _ => ∃ o,h.get? a = some o
  | .xd fs => ∃ mA,h.Ns1 a mA /\ ∀ f,RelO (fs.lookup f) (mA f)
  | .rng lo hi => ∃ t u v,h.get? a = some { cls:=.type "range",data:=.fields #[.int lo t,.int hi u,.int 1 v] }
  | .frz o u => h.get? a = some o /\ ObjOk H h a u
  | .tbl ps => h.get? a = some { cls:=.none,data:=.fields ps }
  | .met f x => h.get? a = some (PySem.W.methodObj (.ref f) (.ref x))
  | .ext φ => φ h /\ (∃ o,h.get? a = some o) /\ ∀ h1 h2:Heap,φ h1 -> (∀ o,h1.get? a = some o -> h2.get? a = some o) -> φ h2
noncomputable def HOk (H:Hp) (h:Heap):Prop:=∀ a o,H a = some o -> ObjOk P w H h a o
end
section
variable {P:Program} {w:World} {H H':Hp} {h h':Heap} {a:Addr} {o:HO}
theorem ObjOk.lt (x:ObjOk P w H h a o):a < h.objs.size:=by
  cases o with
  | lst xs => obtain ⟨_,_,_,_,e⟩:=x; exact Heap.lt_size e
  | tup xs => obtain ⟨_,_,_,p⟩:=x; exact p.lt
  | dK kvs => obtain ⟨_,_,_,_,o,_,_,e,_⟩:=x; exact Heap.lt_size e
  | dT kvs => obtain ⟨_,_,_,_,o,_,_,e,_⟩:=x; exact Heap.lt_size e
  | set S n => obtain ⟨o,_,_,_,e,_⟩:=x; exact Heap.lt_size e
  | ins C dx fs => obtain ⟨_,_,_,e,_⟩:=x; exact Heap.lt_size e
  | own y => obtain ⟨_,e⟩:=x; exact Heap.lt_size e
  | xd fs => obtain ⟨_,⟨_,_,_,e,_⟩,_⟩:=x; exact Heap.lt_size e
  | rng lo hi => obtain ⟨_,_,_,e⟩:=x; exact Heap.lt_size e
  | frz ob u => obtain ⟨e,_⟩:=x; exact Heap.lt_size e
  | tbl ps => exact Heap.lt_size (show h.get? a = some _ from x)
  | met f y => exact Heap.lt_size (show h.get? a = some _ from x)
  | ext φ => obtain ⟨_,⟨_,e⟩,_⟩:=x; exact Heap.lt_size e
theorem Paired.mapP {α β:Type} {F G:α -> β -> Prop}:∀ {l₁:List α} {l₂:List β},Paired F l₁ l₂ -> (∀ a b,F a b -> G a b) -> Paired G l₁ l₂
  | _,_,.nil,_ => .nil
  | _,_,.cons r t,f => .cons (f _ _ r) (Paired.mapP t f)
theorem ObjOk.stay (x:ObjOk P w H h a o) (k:∀ b u,(b = a ∨ H b = some (.own a)) -> h.get? b = some u -> h'.get? b = some u)
    (ho:∀ b,H b = some (.own a) -> H' b = some (.own a)) (ht:∀ b xs,H b = some (.tup xs) -> H' b = some (.tup xs)):ObjOk P w H' h' a o:=by
  induction o with
  | lst xs => obtain ⟨z,its,n,r,e⟩:=x; exact ⟨z,its,n,r,k _ _ (.inl rfl) e⟩
  | tup xs => obtain ⟨⟨z,o1,e1,d1⟩,its,r,ob,e,c⟩:=x; exact ⟨⟨z,o1,k _ _ (.inl rfl) e1,d1⟩,its,r,ob,k _ _ (.inl rfl) e,c⟩
  | dK kvs => obtain ⟨z,y,vs,r,ob,es,ep,e,c⟩:=x; exact ⟨z,y,vs,r,ob,es,ep,k _ _ (.inl rfl) e,c⟩
  | dT kvs =>
    obtain ⟨z,y,xs,r,ob,es,ep,e,c⟩:=x
    exact ⟨z,y,xs,Paired.mapP r fun p q z => ⟨z.1,ht _ _ z.2.1,z.2.2⟩,ob,es,ep,k _ _ (.inl rfl) e,c⟩
  | set S n => obtain ⟨ob,es,ep,t,e,c⟩:=x; exact ⟨ob,es,ep,t,k _ _ (.inl rfl) e,c⟩
  | ins C dx fs =>
    obtain ⟨d,z,ne,e,mA,⟨od,es,ep,e2,c⟩,r⟩:=x
    exact ⟨ho _ d,z,ne,k _ _ (.inl rfl) e,mA,⟨od,es,ep,k _ _ (.inr d) e2,c⟩,r⟩
  | own y => obtain ⟨ob,e⟩:=x; exact ⟨ob,k _ _ (.inl rfl) e⟩
  | xd fs => obtain ⟨mA,⟨od,es,ep,e,c⟩,r⟩:=x; exact ⟨mA,⟨od,es,ep,k _ _ (.inl rfl) e,c⟩,r⟩
  | rng lo hi => obtain ⟨t,u,v,e⟩:=x; exact ⟨t,u,v,k _ _ (.inl rfl) e⟩
  | frz ob u ih => obtain ⟨e,q⟩:=x; exact ⟨k _ _ (.inl rfl) e,ih q⟩
  | tbl ps =>
    have e:h.get? a = some { cls:=.none,data:=.fields ps }:=x
    show h'.get? a = some { cls:=.none,data:=.fields ps }
    exact k a _ (.inl rfl) e
  | met f y =>
    have e:h.get? a = some (PySem.W.methodObj (.ref f) (.ref y)):=x
    show h'.get? a = some (PySem.W.methodObj (.ref f) (.ref y))
    exact k a _ (.inl rfl) e
  | ext φ => obtain ⟨p,⟨o,e⟩,st⟩:=x; exact ⟨st _ _ p fun o q => k _ _ (.inl rfl) q,⟨o,k _ _ (.inl rfl) e⟩,st⟩
theorem HOk.lt (x:HOk P w H h) (e:H a = some o):a < h.objs.size:=(x a o e).lt
theorem HOk.fresh (x:HOk P w H h) (e:h.objs.size <= a):H a = none:=by
  cases q:H a with
  | none => rfl
  | some u => exact absurd (Nat.lt_of_lt_of_le (x.lt q) e) (Nat.lt_irrefl _)
theorem HOk.kept (x:HOk P w H h) (k:∀ b u,h.get? b = some u -> h'.get? b = some u):HOk P w H h':=fun a o e =>
  (x a o e).stay (fun b u _ q => k b u q) (fun _ q => q) fun _ _ q => q
theorem HOk.laid (x:HOk P w H h) (k:∀ b u,h.get? b = some u -> h'.get? b = some u) (hp:h.objs.size <= a) (new:ObjOk P w (upd H a o) h' a o):HOk P w (upd H a o) h':=fun b u e => by
  have hn:=x.fresh hp
  by_cases hb:b = a
  . subst hb; rw [upd_same] at e; cases e; exact new
  . rw [upd_ne hb] at e
    exact (x b u e).stay (fun c v _ q => k c v q) (fun c q => by rw [upd_ne (ne_of_none q hn)]; exact q) fun c xs q => by rw [upd_ne (ne_of_none q hn)]; exact q
end
noncomputable def Rd (H:Hp) (a:Addr) (u:HO):Prop:=H a = some u ∨ ∃ o,H a = some (.frz o u)
theorem Rd.of {H:Hp} {a:Addr} {u:HO} (h:H a = some u):Rd H a u:=.inl h
theorem Rd.ok {P:Program} {w:World} {H:Hp} {h:Heap} {a:Addr} {u:HO} (r:Rd H a u) (x:HOk P w H h):ObjOk P w H h a u:=by
  rcases r with r | ⟨o,r⟩
  . exact x a u r
  . obtain ⟨_,q⟩:=x a _ r
    exact q
noncomputable def Mut:Option HO -> Prop
  | some (.lst _) => True
  | some (.dK _) => True
  | some (.dT _) => True
  | some (.set _ _) => True
  | some (.ins _ _ _) => True
  | some (.ext _) => True
  | _ => False
section
variable {P:Program} {w:World} {H:Hp} {h h':Heap} {x e:Addr} {o':HO}
theorem HOk.write (ok:HOk P w H h) (mu:Mut (H x)) (he:e = x ∨ H e = some (.own x)) (k:∀ b u,b ≠ e -> h.get? b = some u -> h'.get? b = some u) (heo:∃ u,h'.get? e = some u)
    (new:ObjOk P w (upd H x o') h' x o'):HOk P w (upd H x o') h':=fun b u q => by
  have nown:∀ c y,H c = some (.own y) -> c ≠ x:=fun c y r z => by subst z; rw [r] at mu; exact mu
  have ntup:∀ c xs,H c = some (.tup xs) -> c ≠ x:=fun c xs r z => by subst z; rw [r] at mu; exact mu
  by_cases hb:b = x
  . subst hb; rw [upd_same] at q; cases q; exact new
  . rw [upd_ne hb] at q
    by_cases hbe:b = e
    . have q':H b = some (.own x):=by
        rcases he with z | z
        . exact absurd (hbe.trans z) hb
        . rw [hbe]; exact z
      rw [q] at q'; cases q'
      obtain ⟨v,hv⟩:=heo
      exact ⟨v,by rw [hbe]; exact hv⟩
    . refine (ok b u q).stay (fun c v hc r => k c v ?_ r) (fun c r => by rw [upd_ne (nown c b r)]; exact r) fun c xs r => by rw [upd_ne (ntup c xs r)]; exact r
      rcases hc with rfl | hc
      . exact hbe
      . rintro rfl
        rcases he with z | z
        . exact nown c b hc z
        . rw [hc] at z; cases z; exact hb rfl
end
structure Un (fs ex:List Addr) (H H':Hp) (h h':Heap):Prop where
  keep:∀ b o,h.get? b = some o -> H b = none -> b ∉ fs -> b ∉ ex -> h'.get? b = some o
  slot:∀ b o,h.get? b = some o -> H b = none -> b ∈ fs -> b ∉ ex -> ∃ sl,h'.get? b = some { o with slots:=sl }
  free:∀ b o,h.get? b = some o -> H b = none -> b ∉ ex -> H' b = none
  there:∀ b o,h.get? b = some o -> b ∉ ex -> ∃ o',h'.get? b = some o'
  tups:∀ b xs,H b = some (.tup xs) -> H' b = some (.tup xs)
  frzs:∀ b o u,H b = some (.frz o u) -> H' b = some (.frz o u)
  tbls:∀ b ps,H b = some (.tbl ps) -> ∃ more,H' b = some (.tbl (ps ++ more))
section
variable {fs fs' ex ex':List Addr} {H H1 H2:Hp} {h h1 h2 h':Heap} {a x e:Addr} {o:HO}
theorem Un.any (u:Un fs ex H H1 h h1) {b:Addr} {ob:Obj} (q:h.get? b = some ob) (n:H b = none) (hx:b ∉ ex):∃ sl,h1.get? b = some { ob with slots:=sl }:=by
  by_cases hb:b ∈ fs
  . exact u.slot b ob q n hb hx
  . exact ⟨ob.slots,u.keep b ob q n hb hx⟩
theorem Un.trans (a:Un fs ex H H1 h h1) (b:Un fs ex H1 H2 h1 h2):Un fs ex H H2 h h2 where
  keep:=fun c ob q n hc hx => b.keep c ob (a.keep c ob q n hc hx) (a.free c ob q n hx) hc hx
  slot:=fun c ob q n hc hx => by
    obtain ⟨sl,e1⟩:=a.slot c ob q n hc hx
    obtain ⟨sl',e2⟩:=b.slot c _ e1 (a.free c ob q n hx) hc hx
    exact ⟨sl',e2⟩
  free:=fun c ob q n hx => by
    obtain ⟨o',e1⟩:=a.there c ob q hx
    exact b.free c o' e1 (a.free c ob q n hx) hx
  there:=fun c ob q hx => by
    obtain ⟨o',e1⟩:=a.there c ob q hx
    exact b.there c o' e1 hx
  tups:=fun c xs q => b.tups c xs (a.tups c xs q)
  frzs:=fun c ob xs q => b.frzs c ob xs (a.frzs c ob xs q)
  tbls:=fun c ps q => by
    obtain ⟨m1,e1⟩:=a.tbls c ps q
    obtain ⟨m2,e2⟩:=b.tbls c _ e1
    exact ⟨m1 ++ m2,by rw [e2,Array.append_assoc]⟩
theorem Un.kept (k:∀ b u,h.get? b = some u -> h'.get? b = some u):Un fs ex H H h h' :=
  ⟨fun b ob q _ _ _ => k b ob q,fun b ob q _ _ _ => ⟨ob.slots,k b ob q⟩,fun _ _ _ n _ => n,fun b ob q _ => ⟨ob,k b ob q⟩,fun _ _ q => q,fun _ _ _ q => q,fun _ ps q => ⟨#[],by rw [q]; simp⟩⟩
theorem Un.refl:Un fs ex H H h h:=Un.kept fun _ _ q => q
theorem Un.laid (k:∀ b u,h.get? b = some u -> h'.get? b = some u) (hp:h.objs.size <= a) (hn:H a = none):Un fs ex H (upd H a o) h h' where
  keep:=fun b u q _ _ _ => k b u q
  slot:=fun b u q _ _ _ => ⟨u.slots,k b u q⟩
  free:=fun b u q n _ => by rw [upd_ne (Nat.ne_of_lt (Nat.lt_of_lt_of_le (Heap.lt_size q) hp))]; exact n
  there:=fun b u q _ => ⟨u,k b u q⟩
  tups:=fun b xs q => by rw [upd_ne (ne_of_none q hn)]; exact q
  frzs:=fun b u xs q => by rw [upd_ne (ne_of_none q hn)]; exact q
  tbls:=fun b ps q => ⟨#[],by rw [upd_ne (ne_of_none q hn),q]; simp⟩
theorem Un.write (mu:Mut (H x)) (he:e = x ∨ H e = some (.own x)) (k:∀ b u,b ≠ e -> h.get? b = some u -> h'.get? b = some u) (heo:∃ u,h'.get? e = some u):Un fs ex H (upd H x o) h h':=by
  have hx:∀ b,H b = none -> b ≠ x:=fun b n z => by subst z; rw [n] at mu; exact mu
  have hb:∀ b,H b = none -> b ≠ e:=fun b n z => by
    subst z
    rcases he with r | r
    . exact hx b n r
    . rw [n] at r; cases r
  have hm:∀ b u,H b = some u -> ¬ Mut (some u) -> b ≠ x:=fun b u q nm z => by subst z; rw [q] at mu; exact nm mu
  refine ⟨fun b u q n _ _ => k b u (hb b n) q,fun b u q n _ _ => ⟨u.slots,k b u (hb b n) q⟩,fun b u q n _ => by rw [upd_ne (hx b n)]; exact n,fun b u q _ => ?_,
    fun b xs q => by rw [upd_ne (hm b _ q fun z => z)]; exact q,fun b u xs q => by rw [upd_ne (hm b _ q fun z => z)]; exact q,fun b ps q => ⟨#[],by rw [upd_ne (hm b _ q fun z => z),q]; simp⟩⟩
  by_cases hbe:b = e
  . subst hbe; exact heo
  . exact ⟨u,k b u hbe q⟩
theorem Un.mono (u:Un fs ex H H1 h h1) (hs:∀ b ∈ fs,b ∈ fs') (hx:∀ b ∈ ex,b ∈ ex'):Un fs' ex' H H1 h h1 :=
  ⟨fun b ob q n hb he => u.keep b ob q n (fun z => hb (hs b z)) fun z => he (hx b z),fun _ _ q n _ he => u.any q n fun z => he (hx _ z),fun b ob q n he => u.free b ob q n fun z => he (hx b z),fun b ob q he => u.there b ob q fun z => he (hx b z),u.tups,u.frzs,u.tbls⟩
end
noncomputable def trk (h:Heap) (H:Hp):List Addr:=(List.range h.objs.size).filter fun a => (H a).isSome
noncomputable def hidT (h:Heap) (H:Hp):Heap:=PySem.W.hideAll h (trk h H)
theorem hidT_size (h:Heap) (H:Hp):(hidT h H).objs.size = h.objs.size:=PySem.W.hideAll_size _ _
theorem hidT_get {h:Heap} {H:Hp} {b:Addr} {o:Obj} (e:h.get? b = some o) (n:H b = none):(hidT h H).get? b = some o :=
  PySem.W.hideAll_get _ e fun hm => by
    have q:(H b).isSome = true:=(List.mem_filter.mp hm).2
    rw [n] at q; simp at q
theorem of_hidT {h:Heap} {H:Hp} {b:Addr} {o:Obj} (e:(hidT h H).get? b = some o):h.get? b = some o /\ H b = none:=by
  have e':h.get? b = some o:=PySem.W.of_hideAll (trk h H) e
  refine ⟨e',?_⟩
  cases q:H b with
  | none => rfl
  | some x =>
    have hm:b ∈ trk h H:=List.mem_filter.mpr ⟨List.mem_range.mpr (Heap.lt_size e'),by simp [q]⟩
    have z:(hidT h H).get? b = none:=PySem.W.hideAll_none (trk h H) hm
    rw [z] at e; cases e
noncomputable def allNews (g h:Heap) (L:Addr):List (Addr×Obj):=(List.range h.objs.size).filterMap fun a => if a = L ∨ (g.get? a).isSome = true then none else (h.get? a).map fun o => (a,o)
noncomputable def rest (g h:Heap) (L d:Addr):List (Addr×Obj):=(allNews g h L).filter fun p => decide (p.1 ≠ d)
end L2
namespace L2
open PySem PySem.Spec PyProof.Rows
structure Mod (K:PySem.W.Frag) (mg:Str -> Option Value) (base:Heap):Prop where
  kin:K.In base
  glob:base.Ns mainGlobals mg
  blt:∃ mb,base.Ns builtinsNs mb /\ ∀ x:Str,x ≠ "__name__" -> mb x = bootBuiltins x
  nolimit:base.NoLimit
set_option genInjectivity false in
set_option genSizeOfSpec false in
structure Cx where
  prog:Program
  w:World
  K:PySem.W.Frag
  mg:Str -> Option Value
  base:Heap
  A:Around
  N:List Str
  s₀:Shared
  H₀:Hp
  env:Env
  outer:List Env
  stack:List Env
  ex:List Addr
  fn:Str -> Bool
  calm:Bool
  pn:List (Addr×Obj)
  xe:Value -> Shared -> Prop
noncomputable def frs (l:List Env):List Addr:=l.filterMap (·.frame)
noncomputable abbrev Cx.fs (X:Cx):List Addr:=frs X.outer
noncomputable def Vis (sc:Scope) (x:Str):Prop:=sc.names.lookup x = some .local ∨ sc.names.lookup x = some .cell ∨ sc.names.lookup x = some .free
noncomputable def Loc (sc:Scope) (x:Str):Prop:=sc.names.lookup x = some .local ∨ sc.names.lookup x = some .cell
noncomputable def Look (env:Env) (h:Heap) (m:Str -> Option Value) (x:Str) (u:Value):Prop :=
  (env.kindOf x = some .local /\ m x = some u) ∨ ((env.kindOf x = some .cell ∨ env.kindOf x = some .free) /\ ∃ c,env.cells.lookup x = some c /\ h.IsCell c (some u))
structure Cx.Ok (X:Cx):Prop where
  mod:Mod X.K X.mg X.base
  kind:X.env.scope.kind = .function
  glob:X.env.globals = mainGlobals
  blt:X.env.builtins = builtinsNs
  above:X.s₀.heap.objs.size <= X.env.locals
  inj:∀ x y c,X.env.cells.lookup x = some c -> X.env.cells.lookup y = some c -> x = y
  has:∀ x,(X.env.kindOf x = some .cell ∨ X.env.kindOf x = some .free) -> ∃ c,X.env.cells.lookup x = some c
  cab:∀ x c,X.fn x = true -> X.env.cells.lookup x = some c -> X.s₀.heap.objs.size <= c
  hd:X.calm = true -> X.A.handled = none
  frames:X.A.frames = some X.stack
  stk:X.stack = X.outer ∨ (X.stack = X.env :: X.outer /\ X.env.frame = some X.env.locals)
  exf:∀ b ∈ X.ex,b ≠ X.env.locals /\ ∀ x c,X.env.cells.lookup x = some c -> c ≠ b
  bs:∀ b o,X.base.get? b = some o -> X.s₀.heap.get? b = some o /\ X.H₀ b = none
  bsz:X.base.objs.size <= X.s₀.heap.objs.size
  noex:∀ b o,X.base.get? b = some o -> b ∉ X.ex
  exfs:∀ b ∈ X.ex,b ∉ X.fs
  funs:X.s₀.heap.FunFrames X.base X.outer
  frf:∀ b ∈ X.fs,X.H₀ b = none
structure Inv (X:Cx) (pins:List (Addr×Obj)) (σ:List (Option V)) (H:Hp) (s:Shared):Prop where
  ok:X.Ok
  os:s.os = X.s₀.os
  bare:AllBare s.gens
  base:Un X.fs X.ex X.H₀ H X.s₀.heap s.heap
  loc:∃ m,s.heap.Ns X.env.locals m /\ ∀ (i:Nat) (x:Str) (v:V),X.N[i]? = some x -> σ[i]? = some (some v) -> Vis X.env.scope x -> ∃ u,RelV v u /\ Look X.env s.heap m x u
  cell:∀ x c,X.env.cells.lookup x = some c -> ∃ v,s.heap.IsCell c v
  free:H X.env.locals = none
  freeC:∀ x c,X.env.cells.lookup x = some c -> H c = none
  pin:∀ p ∈ X.pn ++ pins,s.heap.get? p.1 = some p.2 /\ H p.1 = none /\ p.1 ≠ X.env.locals /\ p.1 ∉ X.fs /\ ∀ v,p.2.data ≠ .cell v
  hok:HOk X.prog X.w H s.heap
  len:σ.length = X.N.length
section
variable {X:Cx} {pins:List (Addr×Obj)} {σ:List (Option V)} {H H':Hp} {s:Shared} {h':Heap}
theorem Cx.Ok.nofr (ok:X.Ok) {b:Addr} {o:Obj} (e:X.base.get? b = some o):b ∉ X.fs:=fun hb => by
  have:=(ok.funs.mem hb).1
  rw [e] at this; cases this
theorem Inv.bs (I:Inv X pins σ H s):∀ b o,X.base.get? b = some o -> s.heap.get? b = some o /\ H b = none:=fun b o e =>
  ⟨I.base.keep b o (I.ok.bs b o e).1 (I.ok.bs b o e).2 (I.ok.nofr e) (I.ok.noex b o e),I.base.free b o (I.ok.bs b o e).1 (I.ok.bs b o e).2 (I.ok.noex b o e)⟩
theorem Inv.bk (I:Inv X pins σ H s):∀ b o,X.base.get? b = some o -> s.heap.get? b = some o:=fun b o e => (I.bs b o e).1
theorem Inv.mod (I:Inv X pins σ H s):Mod X.K X.mg X.base:=I.ok.mod
theorem Inv.kIn (I:Inv X pins σ H s):X.K.In s.heap:=I.ok.mod.kin.keeps I.bk
theorem Inv.nolimit (I:Inv X pins σ H s):s.heap.NoLimit:=I.ok.mod.nolimit.keeps I.bk
theorem Inv.fr (I:Inv X pins σ H s):∃ m,Fr X.base X.env.locals s.heap m :=
  let ⟨m,hn,_⟩:=I.loc
  ⟨m,hn,I.bk,Nat.le_trans I.ok.bsz I.ok.above⟩
theorem Inv.lt (I:Inv X pins σ H s):X.env.locals < s.heap.objs.size:=let ⟨_,hn,_⟩:=I.loc; hn.lt
theorem Inv.sz (I:Inv X pins σ H s):X.s₀.heap.objs.size <= s.heap.objs.size:=Nat.le_trans I.ok.above (Nat.le_of_lt I.lt)
theorem Inv.nofs (I:Inv X pins σ H s) {a:Addr} (h:s.heap.objs.size <= a):a ∉ X.fs:=fun hb => by
  obtain ⟨_,o,ho,_⟩:=I.ok.funs.mem hb
  exact absurd (Nat.lt_of_lt_of_le (Heap.lt_size ho) (Nat.le_trans I.sz h)) (Nat.lt_irrefl _)
theorem Inv.cne (I:Inv X pins σ H s):∀ x c,X.env.cells.lookup x = some c -> c ≠ X.env.locals:=fun x c e z => by
  obtain ⟨v,o,ho,hd⟩:=I.cell x c e
  obtain ⟨m,⟨o',es,ep,ho',hd',_⟩,_⟩:=I.loc
  rw [z,ho'] at ho; cases ho; rw [hd'] at hd; cases hd
theorem Inv.funs (I:Inv X pins σ H s):s.heap.FunFrames X.base X.outer:=by
  have all:∀ (l:List Env),(∀ b ∈ frs l,b ∈ X.fs) -> X.s₀.heap.FunFrames X.base l -> s.heap.FunFrames X.base l:=by
    intro l
    induction l with
    | nil => intro _ _; trivial
    | cons env r ih =>
      intro hs hl
      obtain ⟨hk,⟨L,o,hf,hn,ho,hd⟩,hr⟩:=hl
      have hL:L ∈ X.fs:=hs L (by unfold frs; rw [List.filterMap_cons,hf]; exact List.mem_cons_self)
      obtain ⟨sl,e⟩:=I.base.slot L o ho (I.ok.frf L hL) hL fun z => I.ok.exfs L z hL
      exact ⟨hk,⟨L,_,hf,hn,e,hd⟩,ih (fun b hb => hs b (by unfold frs; rw [List.filterMap_cons,hf]; exact List.mem_cons_of_mem _ hb)) hr⟩
  exact all X.outer (fun _ hb => hb) I.ok.funs
theorem Inv.stack (I:Inv X pins σ H s):s.heap.FunFrames X.base X.stack:=by
  rcases I.ok.stk with e | ⟨e,hf⟩
  . rw [e]; exact I.funs
  . rw [e]
    obtain ⟨m,hn,_⟩:=I.loc
    refine .cons (by rw [I.ok.kind]; decide) hf hn ?_ I.funs
    exact Heap.get?_none_of_le (Nat.le_trans I.ok.bsz I.ok.above)
theorem Inv.stkSub (I:Inv X pins σ H s):∀ b ∈ frs X.stack,b ∈ X.env.locals :: X.fs:=fun b hb => by
  rcases I.ok.stk with e | ⟨e,hf⟩
  . rw [e] at hb; exact List.mem_cons_of_mem _ hb
  . rw [e] at hb
    unfold frs at hb
    rw [List.filterMap_cons,hf] at hb
    exact hb
theorem Inv.stkFree (I:Inv X pins σ H s):∀ b ∈ frs X.stack,H b = none:=fun b hb => by
  rcases List.mem_cons.mp (I.stkSub b hb) with e | hb
  . rw [e]; exact I.free
  . obtain ⟨_,o,ho,_⟩:=I.ok.funs.mem hb
    exact I.base.free b o ho (I.ok.frf b hb) fun z => I.ok.exfs b z hb
theorem Inv.step {g':Array GenState} {t':Nat} {d':Drawn} {ch:List Addr} (I:Inv X pins σ H s)
    (hch:∀ b ∈ ch,(b ∈ X.ex ∨ X.s₀.heap.objs.size <= b) /\ b ≠ X.env.locals /\ (∀ x c,X.env.cells.lookup x = some c -> c ≠ b) /\ ∀ p ∈ X.pn ++ pins,p.1 ≠ b)
    (keep:∀ b o,b ≠ X.env.locals -> b ∉ X.fs -> b ∉ ch -> s.heap.get? b = some o -> H b = none -> h'.get? b = some o)
    (slot:∀ b o,b ≠ X.env.locals -> b ∈ X.fs -> b ∉ ch -> s.heap.get? b = some o -> H b = none -> ∃ sl,h'.get? b = some { o with slots:=sl }) (free:∀ b o,b ∉ ch -> s.heap.get? b = some o -> H b = none -> H' b = none)
    (there:∀ b o,b ∉ ch -> s.heap.get? b = some o -> ∃ o',h'.get? b = some o')
    (tups:∀ b xs,H b = some (.tup xs) -> H' b = some (.tup xs)) (frzs:∀ b o u,H b = some (.frz o u) -> H' b = some (.frz o u)) (tbls:∀ b ps,H b = some (.tbl ps) -> ∃ more,H' b = some (.tbl (ps ++ more)))
    (ns:∀ m,s.heap.Ns X.env.locals m -> h'.Ns X.env.locals m) (hok:HOk X.prog X.w H' h') (hg:AllBare g') :
    Inv X pins σ H' { s with heap:=h',gens:=g',drawn:=d',toks:=t' }:=by
  have neL:∀ b o,X.s₀.heap.get? b = some o -> b ≠ X.env.locals:=fun b o e => Nat.ne_of_lt (Nat.lt_of_lt_of_le (Heap.lt_size e) I.ok.above)
  have neC:∀ b o,X.s₀.heap.get? b = some o -> b ∉ X.ex -> b ∉ ch:=fun b o e hx hb => by
    rcases (hch b hb).1 with z | z
    . exact hx z
    . exact absurd (Nat.lt_of_lt_of_le (Heap.lt_size e) z) (Nat.lt_irrefl _)
  have cellK:∀ x c,X.env.cells.lookup x = some c -> ∀ v,s.heap.IsCell c v -> h'.IsCell c v:=fun x c e v ⟨o,ho,hd⟩ => by
    have nch:c ∉ ch:=fun z => (hch c z).2.2.1 x c e rfl
    by_cases hc:c ∈ X.fs
    . obtain ⟨sl,q⟩:=slot c o (I.cne x c e) hc nch ho (I.freeC x c e)
      exact ⟨_,q,hd⟩
    . exact ⟨o,keep c o (I.cne x c e) hc nch ho (I.freeC x c e),hd⟩
  refine ⟨I.ok,I.os,hg,⟨fun b o e n hb hx => ?_,fun b o e n hb hx => ?_,fun b o e n hx => ?_,fun b o e hx => ?_,fun b xs e => tups b xs (I.base.tups b xs e),fun b o xs e => frzs b o xs (I.base.frzs b o xs e),fun b ps e => ?_⟩,?_,fun x c e => ?_,?_,fun x c e => ?_,fun p hp => ?_,hok,I.len⟩
  . exact keep b o (neL b o e) hb (neC b o e hx) (I.base.keep b o e n hb hx) (I.base.free b o e n hx)
  . obtain ⟨sl,e1⟩:=I.base.slot b o e n hb hx
    obtain ⟨sl',e2⟩:=slot b _ (neL b o e) hb (neC b o e hx) e1 (I.base.free b o e n hx)
    exact ⟨sl',e2⟩
  . obtain ⟨o',e1⟩:=I.base.there b o e hx
    exact free b o' (neC b o e hx) e1 (I.base.free b o e n hx)
  . obtain ⟨o',e1⟩:=I.base.there b o e hx
    exact there b o' (neC b o e hx) e1
  . obtain ⟨m1,e1⟩:=I.base.tbls b ps e
    obtain ⟨m2,e2⟩:=tbls b _ e1
    exact ⟨m1 ++ m2,by rw [e2,Array.append_assoc]⟩
  . obtain ⟨m,hn,hl⟩:=I.loc
    refine ⟨m,ns m hn,fun i x v e1 e2 e3 => ?_⟩
    obtain ⟨u,r,l⟩:=hl i x v e1 e2 e3
    refine ⟨u,r,?_⟩
    rcases l with l | ⟨k,c,e,z⟩
    . exact .inl l
    . exact .inr ⟨k,c,e,cellK x c e _ z⟩
  . obtain ⟨v,z⟩:=I.cell x c e
    exact ⟨v,cellK x c e v z⟩
  . obtain ⟨m,⟨o,_,_,ho,_⟩,_⟩:=I.loc
    exact free _ o (fun z => (hch _ z).2.1 rfl) ho I.free
  . obtain ⟨v,o,ho,hd⟩:=I.cell x c e
    exact free c o (fun z => (hch c z).2.2.1 x c e rfl) ho (I.freeC x c e)
  . obtain ⟨e,n,ne,nf,d⟩:=I.pin p hp
    have nch:p.1 ∉ ch:=fun z => (hch p.1 z).2.2.2 p hp rfl
    exact ⟨keep p.1 p.2 ne nf nch e n,free p.1 p.2 nch e n,ne,nf,d⟩
theorem Inv.un {t':Nat} (I:Inv X pins σ H s) (u:Un X.fs [] H H' s.heap h') (hok:HOk X.prog X.w H' h'):Inv X pins σ H' { s with heap:=h',toks:=t' }:=by
  obtain ⟨m,⟨o,es,ep,ho,r⟩,_⟩:=id I.loc
  obtain ⟨sl,hL⟩:=u.any ho I.free (by simp)
  exact I.step (g':=s.gens) (d':=s.drawn) (ch:=[]) (fun _ z => nomatch z) (fun b o _ hb _ e n => u.keep b o e n hb (by simp)) (fun b o _ hb _ e n => u.slot b o e n hb (by simp)) (fun b o _ e n => u.free b o e n (by simp)) (fun b o _ e => u.there b o e (by simp)) u.tups u.frzs u.tbls (fun m' hm => by
    obtain ⟨o',es',ep',ho',r'⟩:=hm
    rw [ho] at ho'; cases ho'
    exact ⟨_,es',ep',hL,r'⟩) hok I.bare
theorem Inv.call {g':Array GenState} {t':Nat} {d':Drawn} {ch:List Addr} (I:Inv X pins σ H s) (u:Un (frs X.stack) ch H H' s.heap h') (hok:HOk X.prog X.w H' h') (hg:AllBare g')
    (hch:∀ b ∈ ch,(b ∈ X.ex ∨ X.s₀.heap.objs.size <= b) /\ b ≠ X.env.locals /\ (∀ x c,X.env.cells.lookup x = some c -> c ≠ b) /\ ∀ p ∈ X.pn ++ pins,p.1 ≠ b) :
    Inv X pins σ H' { s with heap:=h',gens:=g',drawn:=d',toks:=t' }:=by
  obtain ⟨m,⟨o,es,ep,ho,r⟩,_⟩:=id I.loc
  obtain ⟨sl,hL⟩:=u.any ho I.free fun z => (hch _ z).2.1 rfl
  exact I.step (ch:=ch) hch (fun b o hL hb hc e n => u.keep b o e n (fun z => (List.mem_cons.mp (I.stkSub b z)).elim hL hb) hc) (fun b o _ _ hc e n => u.any e n hc) (fun b o hc e n => u.free b o e n hc) (fun b o hc e => u.there b o e hc) u.tups u.frzs u.tbls (fun m' hm => by
    obtain ⟨o',es',ep',ho',r'⟩:=hm
    rw [ho] at ho'; cases ho'
    exact ⟨_,es',ep',hL,r'⟩) hok hg
theorem Inv.turned {t':Nat} {it:Addr} (I:Inv X pins σ H s) (k:∀ b o,b ≠ it -> s.heap.get? b = some o -> h'.get? b = some o) (hn:H it = none) (hL:it ≠ X.env.locals)
    (h1:it ∈ X.ex ∨ X.s₀.heap.objs.size <= it) (h2:∀ x c,X.env.cells.lookup x = some c -> c ≠ it) (h3:∀ p ∈ X.pn ++ pins,p.1 ≠ it):Inv X pins σ H { s with heap:=h',toks:=t' }:=by
  have nit:∀ b u,H b = some u -> b ≠ it:=fun b u e z => by rw [z,hn] at e; cases e
  refine I.step (g':=s.gens) (d':=s.drawn) (ch:=[it]) (fun b hb => ?_) (fun b o _ _ hc e _ => k b o (fun z => hc (by simp [z])) e) (fun b o _ _ hc e _ => ⟨o.slots,k b o (fun z => hc (by simp [z])) e⟩) (fun _ _ _ _ n => n)
    (fun b o hc e => ⟨o,k b o (fun z => hc (by simp [z])) e⟩) (fun _ _ e => e) (fun _ _ _ e => e) (fun b ps e => ⟨#[],by rw [e]; simp⟩) (fun m hm => ?_) (fun b u e => ?_) I.bare
  . have e:b = it:=by simpa using hb
    subst e
    exact ⟨h1,hL,h2,h3⟩
  . obtain ⟨o,es,ep,ho,r⟩:=hm
    exact ⟨o,es,ep,k _ o (Ne.symm hL) ho,r⟩
  . refine (I.hok b u e).stay (fun c v hc q => k c v ?_ q) (fun _ q => q) fun _ _ q => q
    rcases hc with z | z
    . rw [z]; exact nit b u e
    . exact nit c _ z
theorem Inv.tok (I:Inv X pins σ H s) (t:Nat):Inv X pins σ H { s with toks:=t }:=I.un (h':=s.heap) (t':=t) Un.refl I.hok
theorem Inv.kept {t':Nat} (I:Inv X pins σ H s) (k:∀ b u,s.heap.get? b = some u -> h'.get? b = some u):Inv X pins σ H { s with heap:=h',toks:=t' }:=I.un (Un.kept k) (I.hok.kept k)
theorem Inv.laid {a:Addr} {o:HO} {t':Nat} (I:Inv X pins σ H s) (k:∀ b u,s.heap.get? b = some u -> h'.get? b = some u) (hp:s.heap.objs.size <= a) (new:ObjOk X.prog X.w (upd H a o) h' a o) :
    Inv X pins σ (upd H a o) { s with heap:=h',toks:=t' }:=I.un (Un.laid k hp (I.hok.fresh hp)) (I.hok.laid k hp new)
theorem Inv.write {x e:Addr} {o:HO} {t':Nat} (I:Inv X pins σ H s) (mu:Mut (H x)) (he:e = x ∨ H e = some (.own x)) (k:∀ b u,b ≠ e -> s.heap.get? b = some u -> h'.get? b = some u) (heo:∃ u,h'.get? e = some u)
    (new:ObjOk X.prog X.w (upd H x o) h' x o):Inv X pins σ (upd H x o) { s with heap:=h',toks:=t' }:=I.un (Un.write mu he k heo) (I.hok.write mu he k heo new)
theorem Inv.pins_of {pins':List (Addr×Obj)} (I:Inv X pins σ H s) (h:∀ p ∈ pins',s.heap.get? p.1 = some p.2 /\ H p.1 = none /\ p.1 ≠ X.env.locals /\ p.1 ∉ X.fs /\ ∀ v,p.2.data ≠ .cell v):Inv X pins' σ H s :=
  ⟨I.ok,I.os,I.bare,I.base,I.loc,I.cell,I.free,I.freeC,fun p hp => (List.mem_append.mp hp).elim (fun z => I.pin p (List.mem_append_left _ z)) (h p),I.hok,I.len⟩
theorem nodup_ix {N:List Str} (hN:N.Nodup) {i j:Nat} {x:Str} (a:N[i]? = some x) (b:N[j]? = some x):i = j:=by
  obtain ⟨h1,e1⟩:=List.getElem?_eq_some_iff.mp a
  obtain ⟨h2,e2⟩:=List.getElem?_eq_some_iff.mp b
  exact (List.getElem_inj hN).mp (e1.trans e2.symm)
theorem store_ok2 {M:Model} {A:Around} {E:Value -> Shared -> Prop} {i:Nat} {x:Str} {v:V} {u:Value} {Q:Unit -> Shared -> Prop} (I:Inv X pins σ H s) (hN:X.N.Nodup) (hi:X.N[i]? = some x) (hx:Loc X.env.scope x) (r:RelV v u)
    (h:∀ s',Inv X pins (σ.set i (some v)) H s' -> (∃ a,Heap.SameBut a s.heap s'.heap /\ (a = X.env.locals ∨ X.env.cells.lookup x = some a)) -> Q () s') (hf:X.fn x = true ∨ X.env.scope.names.lookup x = some .local:=by first | exact .inl rfl | exact .inr rfl | assumption):wpAny M A (storeName X.env x u) Q E s:=by
  obtain ⟨m,hn,hl⟩:=id I.loc
  have hcls:(X.env.scope.kind == .class || (X.env.scope.kind == .module && X.env.locals != X.env.globals)) = false:=by rw [I.ok.kind]; rfl
  have hiσ:i < σ.length:=by rw [I.len]; exact (List.getElem?_eq_some_iff.mp hi).1
  have cne:=I.cne
  have tracked:∀ {a:Addr} {h':Heap},(∃ o,s.heap.get? a = some o /\ H a = none) -> Heap.SameBut a s.heap h' -> HOk X.prog X.w H h':=fun {a h'} ha hs b ob e => by
    obtain ⟨_,_,hfree⟩:=ha
    refine (I.hok b ob e).stay (fun c w' hc q => (hs.2 c ?_).trans q) (fun _ q => q) fun _ _ q => q
    rintro rfl
    rcases hc with rfl | hc
    . rw [hfree] at e; cases e
    . rw [hfree] at hc; cases hc
  rcases hx with hk | hk
  . refine wpAny_storeName_local hk hn (fun h' hn' hs => ?_) hcls
    obtain ⟨oL,_,_,hoL,_⟩:=id hn
    refine h _ ⟨I.ok,I.os,I.bare,⟨fun b o e n hb hx => ?_,fun b o e n hb hx => ?_,I.base.free,fun b o e hx => ?_,I.base.tups,I.base.frzs,I.base.tbls⟩,⟨_,hn',fun j y v' e1 e2 e3 => ?_⟩,fun y c e => ?_,I.free,I.freeC,fun p hp => ?_,tracked ⟨oL,hoL,I.free⟩ hs,by simpa using I.len⟩ ⟨_,hs,.inl rfl⟩
    . exact (hs.2 b (Nat.ne_of_lt (Nat.lt_of_lt_of_le (Heap.lt_size e) I.ok.above))).trans (I.base.keep b o e n hb hx)
    . obtain ⟨sl,e1⟩:=I.base.slot b o e n hb hx
      exact ⟨sl,(hs.2 b (Nat.ne_of_lt (Nat.lt_of_lt_of_le (Heap.lt_size e) I.ok.above))).trans e1⟩
    . obtain ⟨o',e1⟩:=I.base.there b o e hx
      exact ⟨o',(hs.2 b (Nat.ne_of_lt (Nat.lt_of_lt_of_le (Heap.lt_size e) I.ok.above))).trans e1⟩
    . by_cases hj:j = i
      . subst hj
        rw [hi] at e1; cases e1
        rw [List.getElem?_set_self hiσ] at e2
        cases e2
        exact ⟨u,r,.inl ⟨hk,by simp⟩⟩
      . rw [List.getElem?_set_ne (Ne.symm hj)] at e2
        obtain ⟨u',r',q⟩:=hl j y v' e1 e2 e3
        refine ⟨u',r',?_⟩
        rcases q with ⟨k,e⟩ | ⟨k,c,e,z⟩
        . refine .inl ⟨k,?_⟩
          have:y ≠ x:=fun e => hj (nodup_ix hN e1 (e ▸ hi))
          simp [this,e]
        . exact .inr ⟨k,c,e,z.sameBut hs (cne y c e)⟩
    . obtain ⟨w',z⟩:=I.cell y c e
      exact ⟨w',z.sameBut hs (cne y c e)⟩
    . obtain ⟨e,n,ne,nf,d⟩:=I.pin p hp
      exact ⟨(hs.2 p.1 ne).trans e,n,ne,nf,d⟩
  . have hfn:X.fn x = true:=by
      rcases hf with z | z
      . exact z
      . rw [z] at hk; cases hk
    obtain ⟨c,hc⟩:=I.ok.has x (.inl hk)
    obtain ⟨w',z⟩:=I.cell x c hc
    refine wpAny_storeName_cell I.ok.kind hk hc z (fun h' hc' hs => ?_)
    obtain ⟨oc,hoc,hocd⟩:=id z
    refine h { s with heap:=h' } ⟨I.ok,I.os,I.bare,⟨fun b o e n hb hx => ?_,fun b o e n hb hx => ?_,I.base.free,fun b o e hx => ?_,I.base.tups,I.base.frzs,I.base.tbls⟩,⟨m,hn.sameBut hs (Ne.symm (cne x c hc)),fun j y v' e1 e2 e3 => ?_⟩,fun y c' e => ?_,I.free,I.freeC,fun p hp => ?_,tracked ⟨oc,hoc,I.freeC x c hc⟩ hs,by simpa using I.len⟩ ⟨c,hs,.inr hc⟩
    . exact (hs.2 b (Nat.ne_of_lt (Nat.lt_of_lt_of_le (Heap.lt_size e) (I.ok.cab x c hfn hc)))).trans (I.base.keep b o e n hb hx)
    . obtain ⟨sl,e1⟩:=I.base.slot b o e n hb hx
      exact ⟨sl,(hs.2 b (Nat.ne_of_lt (Nat.lt_of_lt_of_le (Heap.lt_size e) (I.ok.cab x c hfn hc)))).trans e1⟩
    . obtain ⟨o',e1⟩:=I.base.there b o e hx
      exact ⟨o',(hs.2 b (Nat.ne_of_lt (Nat.lt_of_lt_of_le (Heap.lt_size e) (I.ok.cab x c hfn hc)))).trans e1⟩
    . by_cases hj:j = i
      . subst hj
        rw [hi] at e1; cases e1
        rw [List.getElem?_set_self hiσ] at e2
        cases e2
        exact ⟨u,r,.inr ⟨.inl hk,c,hc,hc'⟩⟩
      . rw [List.getElem?_set_ne (Ne.symm hj)] at e2
        obtain ⟨u',r',q⟩:=hl j y v' e1 e2 e3
        refine ⟨u',r',?_⟩
        rcases q with q | ⟨k,c',e,z'⟩
        . exact .inl q
        . refine .inr ⟨k,c',e,z'.sameBut hs ?_⟩
          rintro rfl
          exact hj (nodup_ix hN e1 (I.ok.inj _ _ _ e hc ▸ hi))
    . by_cases hcc:c' = c
      . subst hcc; exact ⟨_,hc'⟩
      . obtain ⟨w2,z2⟩:=I.cell y c' e
        exact ⟨w2,z2.sameBut hs hcc⟩
    . obtain ⟨e,n,ne,nf,d⟩:=I.pin p hp
      refine ⟨(hs.2 p.1 ?_).trans e,n,ne,nf,d⟩
      intro q
      rw [q,hoc] at e
      have q':oc = p.2:=Option.some.inj e
      exact d w' (by rw [← q']; exact hocd)
theorem store_ok {M:Model} {A:Around} {E:Value -> Shared -> Prop} {i:Nat} {x:Str} {v:V} {u:Value} {Q:Unit -> Shared -> Prop} (I:Inv X pins σ H s) (hN:X.N.Nodup) (hi:X.N[i]? = some x) (hx:Loc X.env.scope x) (r:RelV v u)
    (h:∀ s',Inv X pins (σ.set i (some v)) H s' -> Q () s') (hf:X.fn x = true ∨ X.env.scope.names.lookup x = some .local:=by first | exact .inl rfl | exact .inr rfl | assumption):wpAny M A (storeName X.env x u) Q E s :=
  store_ok2 I hN hi hx r (fun s' I' _ => h s' I') hf
theorem Inv.call' {s':Shared} {ch:List Addr} (I:Inv X pins σ H s) (ho:s'.os = s.os) (u:Un (frs X.stack) ch H H' s.heap s'.heap) (hok:HOk X.prog X.w H' s'.heap) (hg:AllBare s'.gens)
    (hch:∀ b ∈ ch,(b ∈ X.ex ∨ X.s₀.heap.objs.size <= b) /\ b ≠ X.env.locals /\ (∀ x c,X.env.cells.lookup x = some c -> c ≠ b) /\ ∀ p ∈ X.pn ++ pins,p.1 ≠ b):Inv X pins σ H' s':=by
  obtain ⟨h',g',d',t',o'⟩:=s'
  have e:o' = s.os:=ho
  subst e
  exact I.call (g':=g') (t':=t') (d':=d') u hok hg hch
end
noncomputable abbrev XK:=Value -> Option Addr -> Hp -> Prop
noncomputable abbrev St:=List (Option V)
noncomputable abbrev VK:=V -> Hp -> Prop
noncomputable abbrev TE:=St -> Hp -> VK -> Prop
noncomputable abbrev TT:=St -> Hp -> (Bool -> Hp -> Prop) -> Prop
noncomputable abbrev TA:=St -> Hp -> (List V -> Hp -> Prop) -> Prop
structure Ends where
  nx:St -> Hp -> Prop
  rt:VK
  bk:St -> Hp -> Prop:=fun _ _ => False
  ct:St -> Hp -> Prop:=fun _ _ => False
noncomputable abbrev TS:=Ends -> St -> Hp -> Prop
noncomputable def EP (X:Cx) (pins:List (Addr×Obj)) (σ:St) (Q:VK) (u:Value) (s':Shared):Prop:=∃ v H',Inv X pins σ H' s' /\ RelV v u /\ Q v H'
noncomputable def TP (X:Cx) (pins:List (Addr×Obj)) (σ:St) (Q:Bool -> Hp -> Prop) (b:Bool) (s':Shared):Prop:=∃ H',Inv X pins σ H' s' /\ Q b H'
noncomputable def AP (X:Cx) (pins:List (Addr×Obj)) (σ:St) (Q:List V -> Hp -> Prop) (us:List Value) (s':Shared):Prop:=∃ vs H',Inv X pins σ H' s' /\ Vals vs us /\ Q vs H'
noncomputable def SP (X:Cx) (pins:List (Addr×Obj)) (D:Ends) (f:Flow) (s':Shared):Prop :=
  match f with
  | .next => ∃ σ' H',Inv X pins σ' H' s' /\ D.nx σ' H'
  | .brk => ∃ σ' H',Inv X pins σ' H' s' /\ D.bk σ' H'
  | .cont => ∃ σ' H',Inv X pins σ' H' s' /\ D.ct σ' H'
  | .ret u => ∃ v σ' H',Inv X pins σ' H' s' /\ RelV v u /\ D.rt v H'
noncomputable def PE (X:Cx) (e:Expr) (t:TE):Prop :=
  ∀ (pins:List (Addr×Obj)) (s:Shared) (σ:St) (H:Hp) (Q:VK),Inv X pins σ H s -> t σ H Q -> wpAny (model X.prog X.w) X.A (eval e X.env) (EP X pins σ Q) X.xe s
noncomputable def PT (X:Cx) (e:Expr) (t:TT):Prop :=
  ∀ (pins:List (Addr×Obj)) (s:Shared) (σ:St) (H:Hp) (Q:Bool -> Hp -> Prop),Inv X pins σ H s -> t σ H Q -> wpAny (model X.prog X.w) X.A (isTrue e X.env (eval e X.env)) (TP X pins σ Q) X.xe s
noncomputable def PW (X:Cx) (e:Expr) (t:TT):Prop :=
  ∀ (whole:Sem Value) (pins:List (Addr×Obj)) (s:Shared) (σ:St) (H:Hp) (Q:Bool -> Hp -> Prop),Inv X pins σ H s -> t σ H Q -> wpAny (model X.prog X.w) X.A (isTrue e X.env whole) (TP X pins σ Q) X.xe s
theorem PW.pt {X:Cx} {e:Expr} {t:TT} (h:PW X e t):PT X e t:=h _
noncomputable def PA (X:Cx) (es:List Expr) (t:TA):Prop :=
  ∀ (pos:Pos) (pins:List (Addr×Obj)) (s:Shared) (σ:St) (H:Hp) (Q:List V -> Hp -> Prop),Inv X pins σ H s -> t σ H Q -> wpAny (model X.prog X.w) X.A (spliced (backTo pos (starEach es X.env))) (AP X pins σ Q) X.xe s
noncomputable def PS (X:Cx) (st:Stmt) (t:TS):Prop :=
  ∀ (pins:List (Addr×Obj)) (s:Shared) (σ:St) (H:Hp) (D:Ends),Inv X pins σ H s -> t D σ H -> wpAny (model X.prog X.w) X.A (exec st X.env) (SP X pins D) X.xe s
noncomputable def PSs (X:Cx) (st:List Stmt) (t:TS):Prop :=
  ∀ (pins:List (Addr×Obj)) (s:Shared) (σ:St) (H:Hp) (D:Ends),Inv X pins σ H s -> t D σ H -> wpAny (model X.prog X.w) X.A (execs st X.env) (SP X pins D) X.xe s
theorem thn {α:Type} {t:Sem α} {Q Q':α -> Shared -> Prop} {M:Model} {A:Around} {E:Value -> Shared -> Prop} {s:Shared} (h:wpAny M A t Q E s) (hQ:∀ a s,Q a s -> Q' a s):wpAny M A t Q' E s:=wpAny_mono h hQ fun _ _ x => x
end L2
namespace L2
open PySem PySem.Spec PyProof.Rows
section
variable {X:Cx}
noncomputable def tVar (i:Nat):TE:=fun σ H Q => ∃ v,σ[i]? = some (some v) /\ Q v H
noncomputable def tC (v:V):TE:=fun _ H Q => Q v H
theorem pe_var {i:Nat} {x:Str} {pos:Pos} (hN:X.N[i]? = some x) (hv:Vis X.env.scope x) (hd:(x == ("__debug__":Str)) = false:=by decide) (hcd:(x == ("__classdict__":Str)) = false:=by decide):PE X (.Name x pos) (tVar i):=by
  intro pins s σ H Q I h
  obtain ⟨v,e,h⟩:=h
  obtain ⟨m,hn,hl⟩:=I.loc
  obtain ⟨u,r,l⟩:=hl i x v hN e hv
  have fin:EP X pins σ Q u s:=⟨v,H,I,r,h⟩
  rcases l with ⟨hk,hm⟩ | ⟨hk,c,hc,hcell⟩
  . exact wpAny_Name (wpAny_loadName_local I.ok.kind hk hn hm fin) hd
  . rcases hk with hk | hk
    . exact wpAny_Name (wpAny_loadName_cell I.ok.kind hk hc hcell fin) hd
    . exact wpAny_Name (wpAny_loadName_free I.ok.kind hk hc hcell fin hcd) hd
theorem pe_int {i j pos}:PE X (.Constant (.int i) j pos) (tC (.int i)):=fun _ _ _ H _ I h => wpAny_Constant_int ⟨.int i,H,I.tok _,⟨_,rfl⟩,h⟩
theorem pe_bl {b j pos}:PE X (.Constant (.bool b) j pos) (tC (.bl b)):=fun _ _ _ H _ I h => Constant_bool ⟨.bl b,H,I,rfl,h⟩
theorem pe_non {j pos}:PE X (.Constant .none j pos) (tC .non):=fun _ _ _ H _ I h => Constant_none ⟨.non,H,I,rfl,h⟩
theorem pe_str {x j pos}:PE X (.Constant (.str x) j pos) (tC (.str x)):=fun _ _ _ H _ I h => Calls.Constant_str ⟨.str x,H,I.tok _,⟨_,rfl⟩,h⟩
noncomputable def Gl (X:Cx) (x:Str):Prop:=X.env.kindOf x = some .globalImplicit
theorem ld_glob {E:Value -> Shared -> Prop} {pins:List (Addr×Obj)} {s:Shared} {σ:St} {H:Hp} {x:Str} {u:Value} {pos:Pos} {Q:Value -> Shared -> Prop} (I:Inv X pins σ H s) (hg:Gl X x) (hm:X.mg x = some u) (h:Q u s)
    (hd:(x == ("__debug__":Str)) = false:=by decide):wpAny (model X.prog X.w) X.A (eval (.Name x pos) X.env) Q E s :=
  Calls.Name_function_global I.ok.kind hg (Calls.loadGlobal_global (by rw [I.ok.glob]; exact I.mod.glob.keeps I.bk) hm h) hd
theorem ld_blt {E:Value -> Shared -> Prop} {pins:List (Addr×Obj)} {s:Shared} {σ:St} {H:Hp} {x:Str} {u:Value} {pos:Pos} {Q:Value -> Shared -> Prop} (I:Inv X pins σ H s) (hg:Gl X x) (hm:X.mg x = none) (hv:bootBuiltins x = some u) (h:Q u s)
    (hn:x ≠ "__name__":=by decide) (hd:(x == ("__debug__":Str)) = false:=by decide):wpAny (model X.prog X.w) X.A (eval (.Name x pos) X.env) Q E s:=by
  obtain ⟨mb,h1,h2⟩:=I.mod.blt
  exact Calls.Name_function_global I.ok.kind hg (Calls.loadGlobal_builtin (by rw [I.ok.glob]; exact I.mod.glob.keeps I.bk) hm (by rw [I.ok.blt]; exact h1.keeps I.bk) ((h2 x hn).trans hv) h) hd
theorem pe_glob {x:Str} {v:V} {u:Value} {pos:Pos} (hg:Gl X x) (hm:X.mg x = some u) (r:RelV v u) (hd:(x == ("__debug__":Str)) = false:=by decide):PE X (.Name x pos) (tC v) :=
  fun _ _ _ H _ I h => ld_glob I hg hm ⟨v,H,I,r,h⟩ hd
theorem pe_bltn {x:Str} {v:V} {u:Value} {pos:Pos} (hg:Gl X x) (hm:X.mg x = none) (hv:bootBuiltins x = some u) (r:RelV v u) (hn:x ≠ "__name__":=by decide) (hd:(x == ("__debug__":Str)) = false:=by decide):PE X (.Name x pos) (tC v) :=
  fun _ _ _ H _ I h => ld_blt I hg hm hv ⟨v,H,I,r,h⟩ hn hd
variable {a b:Expr} {ta tb:TE} {pos:Pos}
noncomputable def PC (X:Cx) (op:CmpOp) (a b:Expr) (t:TE):Prop :=
  ∀ (pins:List (Addr×Obj)) (s:Shared) (σ:St) (H:Hp) (Q:VK),Inv X pins σ H s -> t σ H Q ->
    wpAny (model X.prog X.w) X.A (eval a X.env) (fun v s₁ => wpAny (model X.prog X.w) X.A (eval b X.env) (fun u s₂ => wpAny (model X.prog X.w) X.A (compareOp op v u) (EP X pins σ Q) X.xe s₂) X.xe s₁) X.xe s
theorem nobehind (b:Expr) {op:CmpOp} (h:op ≠ .In) (h2:op ≠ .NotIn):behindInMarks op b = false:=by
  have e1:(op == CmpOp.In) = false:=by cases op <;> first | rfl | exact absurd rfl h
  have e2:(op == CmpOp.NotIn) = false:=by cases op <;> first | rfl | exact absurd rfl h2
  cases b <;> simp [behindInMarks,e1,e2]
noncomputable def tB (t:TE):TT:=fun σ H Q => t σ H fun x H1 => ∃ c,x = .bl c /\ Q c H1
theorem pe_cmp {op:CmpOp} {t:TE} (h:PC X op a b t) (h1:behindInMarks op b = false:=by first | exact nobehind _ (by decide) (by decide) | rfl):PE X (.Compare a [op] [b] pos) t:=fun pins s σ H Q I hw => wpAny_Compare1 (h pins s σ H Q I hw) h1
theorem pt_cmp {op:CmpOp} {t:TE} (h:PC X op a b t) (h1:behindInMarks op b = false:=by first | exact nobehind _ (by decide) (by decide) | rfl):PT X (.Compare a [op] [b] pos) (tB t):=by
  intro pins s σ H Q I hw
  refine wpAny_isTrue_Compare1 (thn (h pins s σ H _ I hw) fun v s1 h1 => thn h1 fun u s2 h2 => thn h2 fun c s3 ⟨x,H1,I1,r1,q1⟩ => ?_) h1
  obtain ⟨d,rfl,q⟩:=q1
  cases r1
  exact wpAny_truthy_bool ⟨H1,I1,q⟩
theorem pt_val {e:Expr} {t:TE} (h:PE X e t) (he:∀ whole,isTrue e X.env whole = (do let v ← whole; standAt e.pos; holding [v] (truthy v)):=by intro _; rfl):PT X e (tB t):=by
  intro pins s σ H Q I hw
  refine isTrue_plain (thn (h pins s σ H _ I hw) fun v s1 ⟨x,H1,I1,r1,q1⟩ => ?_) (he _)
  obtain ⟨d,rfl,q⟩:=q1
  cases r1
  exact wpAny_truthy_bool ⟨H1,I1,q⟩
variable {tA tB':TT} {rest:List Expr}
noncomputable def tAnd (t u:TT):TT:=fun σ H Q => t σ H fun c H1 => if c = true then u σ H1 Q else Q false H1
noncomputable def tOr (t u:TT):TT:=fun σ H Q => t σ H fun c H1 => if c = true then Q true H1 else u σ H1 Q
noncomputable def tNot (t:TT):TT:=fun σ H Q => t σ H fun c H1 => Q (!c) H1
theorem pw_and1 (ha:PT X a tA):PW X (.BoolOp .And [a] pos) tA:=by
  intro wh pins s σ H Q I h
  refine isTrue_and (thn (ha pins s σ H Q I h) fun c s1 e => ?_)
  cases c with
  | true => exact isTrue_and_nil e
  | false => exact e
theorem pw_or1 (ha:PT X a tA):PW X (.BoolOp .Or [a] pos) tA:=by
  intro wh pins s σ H Q I h
  refine isTrue_or (thn (ha pins s σ H Q I h) fun c s1 e => ?_)
  cases c with
  | false => exact isTrue_or_nil e
  | true => exact e
theorem pw_and (ha:PT X a tA) (hb:PW X (.BoolOp .And (b :: rest) pos) tB'):PW X (.BoolOp .And (a :: b :: rest) pos) (tAnd tA tB'):=by
  intro wh pins s σ H Q I h
  refine isTrue_and (thn (ha pins s σ H _ I h) fun c s1 ⟨H1,I1,q1⟩ => ?_)
  cases c with
  | true => exact hb wh pins s1 σ H1 Q I1 q1
  | false => exact ⟨H1,I1,q1⟩
theorem pw_or (ha:PT X a tA) (hb:PW X (.BoolOp .Or (b :: rest) pos) tB'):PW X (.BoolOp .Or (a :: b :: rest) pos) (tOr tA tB'):=by
  intro wh pins s σ H Q I h
  refine isTrue_or (thn (ha pins s σ H _ I h) fun c s1 ⟨H1,I1,q1⟩ => ?_)
  cases c with
  | true => exact ⟨H1,I1,q1⟩
  | false => exact hb wh pins s1 σ H1 Q I1 q1
theorem pt_not (ha:PT X a tA):PT X (.UnaryOp .Not a pos) (tNot tA):=by
  intro pins s σ H Q I h
  exact isTrue_not (ha pins s σ H (fun c H1 => Q (!c) H1) I h)
noncomputable def tAndV (ta tb:TE):TE:=fun σ H Q => ta σ H fun x H1 => ∃ c,x = .bl c /\ if c = true then tb σ H1 Q else Q (.bl false) H1
noncomputable def tOrV (ta tb:TE):TE:=fun σ H Q => ta σ H fun x H1 => ∃ c,x = .bl c /\ if c = true then Q (.bl true) H1 else tb σ H1 Q
noncomputable def tNotV (ta:TE):TE:=fun σ H Q => ta σ H fun x H1 => ∃ c,x = .bl c /\ Q (.bl (!c)) H1
theorem pe_one {op} {t:TE} (h:PE X a t):PE X (.BoolOp op [a] pos) t:=fun pins s σ H Q I hw => BoolOp_one (h pins s σ H Q I hw)
theorem pe_and (ha:PE X a ta) (hb:PE X (.BoolOp .And (b :: rest) pos) tb):PE X (.BoolOp .And (a :: b :: rest) pos) (tAndV ta tb):=by
  intro pins s σ H Q I h
  refine BoolOp_and (thn (ha pins s σ H _ I h) fun v s1 ⟨x,H1,I1,r1,q1⟩ => ?_)
  obtain ⟨c,rfl,q1⟩:=q1
  cases r1
  refine wpAny_truthy_bool ?_
  cases c with
  | true => exact hb pins s1 σ H1 Q I1 q1
  | false => exact ⟨.bl false,H1,I1,rfl,q1⟩
theorem pe_not (ha:PE X a ta):PE X (.UnaryOp .Not a pos) (tNotV ta):=by
  intro pins s σ H Q I h
  refine UnaryOp_ (thn (ha pins s σ H _ I h) fun v s1 ⟨x,H1,I1,r1,q1⟩ => ?_)
  obtain ⟨c,rfl,q1⟩:=q1
  cases r1
  exact not_of (wpAny_truthy_bool ⟨.bl (!c),H1,I1,rfl,q1⟩)
noncomputable def tIf (t:TT) (ta tb:TE):TE:=fun σ H Q => t σ H fun c H1 => if c = true then ta σ H1 Q else tb σ H1 Q
theorem pe_ifExp {c:Expr} (hc:PT X c tA) (ha:PE X a ta) (hb:PE X b tb):PE X (.IfExp c a b pos) (tIf tA ta tb):=by
  intro pins s σ H Q I h
  refine wpAny_IfExp (thn (hc pins s σ H _ I h) fun d s1 ⟨H1,I1,q1⟩ => ?_)
  cases d with
  | true => exact ha pins s1 σ H1 Q I1 q1
  | false => exact hb pins s1 σ H1 Q I1 q1
end
end L2
namespace L2
open PySem PySem.Spec PyProof.Rows
noncomputable def SqL (K:PySem.W.Frag) (H:Hp) (a:Addr) (xs:List V):Prop :=
  Rd H a (.lst xs) ∨
    ∃ (o:Obj) (its:Array Value) (n:Nat),K.lookup a = some o /\ o.cls = .type "list" /\ o.dict = none /\ o.data = .seq its n /\ its.size <= sizeLine /\ Vals xs its.toList
noncomputable def SqT (K:PySem.W.Frag) (H:Hp) (a:Addr) (xs:List V):Prop :=
  Rd H a (.tup xs) ∨
    ∃ (o:Obj) (its:Array Value) (n:Nat),K.lookup a = some o /\ o.cls = .type "tuple" /\ o.data = .seq its n /\ its.size <= sizeLine /\ Vals xs its.toList
noncomputable def absV:Value -> Option V
  | .none => some .non
  | .bool b => some (.bl b)
  | .int i _ => some (.int i)
  | .str x _ => some (.str x)
  | .bytes b _ => some (.byt b)
  | .float b _ => some (.flt b)
  | .ref a => some (.ref a)
  | .type n => some (.ty n)
  | _ => none
theorem RelV.abs {x:V} {u:Value} (r:RelV x u):absV u = some x:=by
  cases x with
  | non => cases r; rfl
  | bl _ => cases r; rfl
  | int _ => obtain ⟨t,rfl⟩:=r; rfl
  | str _ => obtain ⟨t,rfl⟩:=r; rfl
  | byt _ => obtain ⟨t,rfl⟩:=r; rfl
  | flt _ => obtain ⟨t,rfl⟩:=r; rfl
  | ref _ => cases r; rfl
  | ty _ => cases r; rfl
theorem RelV.inj {x y:V} {u:Value} (r:RelV x u) (q:RelV y u):x = y:=Option.some.inj (r.abs.symm.trans q.abs)
theorem Vals.inj:∀ {xs ys:List V} {us:List Value},Vals xs us -> Vals ys us -> xs = ys
  | _,_,_,.nil,.nil => rfl
  | _,_,_,.cons r t,.cons r' t' => by rw [r.inj r',Vals.inj t t']
section
variable {X:Cx} {pins:List (Addr×Obj)} {σ:St} {H:Hp} {s:Shared} {a:Addr} {xs ys:List V}
theorem SqL.of {K:PySem.W.Frag} (h:H a = some (.lst xs)):SqL K H a xs:=.inl (.inl h)
theorem SqT.of {K:PySem.W.Frag} (h:H a = some (.tup xs)):SqT K H a xs:=.inl (.inl h)
theorem Inv.list (I:Inv X pins σ H s) (h:SqL X.K H a xs):∃ its:List Value,Vals xs its /\ PlainL s.heap a its.toArray /\ xs.length <= sizeLine:=by
  rcases h with h | ⟨o,its,n,hk,hc,hd,hs,hz,r⟩
  . obtain ⟨z,its,n,r,e⟩:=h.ok I.hok
    exact ⟨its,r,⟨_,n,e,rfl,rfl,rfl⟩,z⟩
  . refine ⟨its.toList,r,⟨o,n,I.kIn a o hk,hc,hd,by simpa using hs⟩,?_⟩
    have e:=r.length
    simp only [Array.length_toList] at e
    omega
theorem Inv.tuple (I:Inv X pins σ H s) (h:SqT X.K H a xs):∃ its:List Value,Vals xs its /\ IsTup s.heap a its.toArray /\ xs.length <= sizeLine:=by
  rcases h with h | ⟨o,its,n,hk,hc,hs,hz,r⟩
  . obtain ⟨z,its,r,p⟩:=h.ok I.hok
    exact ⟨its,r,p,z.1⟩
  . refine ⟨its.toList,r,⟨o,I.kIn a o hk,hc,n,by simpa using hs⟩,?_⟩
    have e:=r.length
    simp only [Array.length_toList] at e
    omega
theorem Inv.list_inj (I:Inv X pins σ H s) (h:SqL X.K H a xs) (h':SqL X.K H a ys):xs = ys:=by
  obtain ⟨its,r,⟨o,n,e,_,_,d⟩,_⟩:=I.list h
  obtain ⟨its',r',⟨o',n',e',_,_,d'⟩,_⟩:=I.list h'
  rw [e] at e'; cases e'
  rw [d] at d'
  injection d' with d1 _
  have:its = its':=by simpa using congrArg Array.toList d1
  subst this
  exact r.inj r'
theorem Inv.tuple_inj (I:Inv X pins σ H s) (h:SqT X.K H a xs) (h':SqT X.K H a ys):xs = ys:=by
  obtain ⟨its,r,⟨o,e,_,n,d⟩,_⟩:=I.tuple h
  obtain ⟨its',r',⟨o',e',_,n',d'⟩,_⟩:=I.tuple h'
  rw [e] at e'; cases e'
  rw [d] at d'
  injection d' with d1 _
  have:its = its':=by simpa using congrArg Array.toList d1
  subst this
  exact r.inj r'
end
noncomputable abbrev Cx.wish (X:Cx) (E:Value -> Shared -> Prop):Cx:={ X with xe:=E }
noncomputable abbrev Cx.nox (X:Cx):Cx:=X.wish fun _ _ => False
theorem Cx.Ok.wish {X:Cx} (ok:X.Ok) (E:Value -> Shared -> Prop):(X.wish E).Ok :=
  ⟨ok.mod,ok.kind,ok.glob,ok.blt,ok.above,ok.inj,ok.has,ok.cab,ok.hd,ok.frames,ok.stk,ok.exf,ok.bs,ok.bsz,ok.noex,ok.exfs,ok.funs,ok.frf⟩
theorem Cx.Ok.unwish {X:Cx} {E:Value -> Shared -> Prop} (ok:(X.wish E).Ok):X.Ok :=
  ⟨ok.mod,ok.kind,ok.glob,ok.blt,ok.above,ok.inj,ok.has,ok.cab,ok.hd,ok.frames,ok.stk,ok.exf,ok.bs,ok.bsz,ok.noex,ok.exfs,ok.funs,ok.frf⟩
section
variable {X:Cx} {pins:List (Addr×Obj)} {σ:St} {H:Hp} {s:Shared} {E:Value -> Shared -> Prop}
theorem Inv.wish (I:Inv X pins σ H s) (E:Value -> Shared -> Prop):Inv (X.wish E) pins σ H s:=⟨I.ok.wish E,I.os,I.bare,I.base,I.loc,I.cell,I.free,I.freeC,I.pin,I.hok,I.len⟩
theorem Inv.unwish (I:Inv (X.wish E) pins σ H s):Inv X pins σ H s:=⟨I.ok.unwish,I.os,I.bare,I.base,I.loc,I.cell,I.free,I.freeC,I.pin,I.hok,I.len⟩
theorem SP.unwish {D:Ends} {f:Flow} {s':Shared} (h:SP (X.wish E) pins D f s'):SP X pins D f s':=by
  cases f with
  | next => obtain ⟨σ',H',I,q⟩:=h; exact ⟨σ',H',I.unwish,q⟩
  | brk => obtain ⟨σ',H',I,q⟩:=h; exact ⟨σ',H',I.unwish,q⟩
  | cont => obtain ⟨σ',H',I,q⟩:=h; exact ⟨σ',H',I.unwish,q⟩
  | ret u => obtain ⟨v,σ',H',I,r,q⟩:=h; exact ⟨v,σ',H',I.unwish,r,q⟩
theorem PE.nox {e:Expr} {t:TE} (h:PE X.nox e t):PE X e t:=fun pins s σ H Q I hw =>
  wpAny_mono (h pins s σ H Q (I.wish _) hw) (fun _ _ ⟨v,H',I',r,q⟩ => ⟨v,H',I'.unwish,r,q⟩) fun _ _ z => False.elim z
theorem PT.nox {e:Expr} {t:TT} (h:PT X.nox e t):PT X e t:=fun pins s σ H Q I hw =>
  wpAny_mono (h pins s σ H Q (I.wish _) hw) (fun _ _ ⟨H',I',q⟩ => ⟨H',I'.unwish,q⟩) fun _ _ z => False.elim z
theorem PSs.nox {st:List Stmt} {t:TS} (h:PSs X.nox st t):PSs X st t:=fun pins s σ H D I hw =>
  wpAny_mono (h pins s σ H D (I.wish _) hw) (fun _ _ q => q.unwish) fun _ _ z => False.elim z
end
section
variable {X:Cx} {st:Stmt} {rest:List Stmt} {t u:TS} {e:Expr} {te:TE} {pos:Pos}
noncomputable def tNext:TS:=fun D σ H => D.nx σ H
noncomputable def tSeq (t u:TS):TS:=fun D σ H => t { D with nx:=u D } σ H
theorem pss_nil:PSs X [] tNext:=fun _ _ σ H _ I h => wpAny_execs_nil ⟨σ,H,I,h⟩
theorem pss_cons (h1:PS X st t) (h2:PSs X rest u):PSs X (st :: rest) (tSeq t u):=by
  intro pins s σ H D I h
  refine wpAny_execs_cons (thn (h1 pins s σ H { D with nx:=u D } I h) fun f s1 q => ?_)
  cases f with
  | next =>
    obtain ⟨σ',H',I',q⟩:=q
    exact h2 pins s1 σ' H' D I' q
  | ret v => exact q
  | brk => exact q
  | cont => exact q
theorem pss_one (h1:PS X st t):PSs X [st] t:=by
  intro pins s σ H D I h
  refine wpAny_execs_cons (thn (h1 pins s σ H D I h) fun f s1 q => ?_)
  cases f with
  | next => exact wpAny_execs_nil q
  | ret v => exact q
  | brk => exact q
  | cont => exact q
noncomputable def tBreak:TS:=fun D σ H => D.bk σ H
noncomputable def tCont:TS:=fun D σ H => D.ct σ H
theorem Inv.quiet {pins:List (Addr×Obj)} {σ:St} {H:Hp} {s:Shared} (I:Inv X pins σ H s):interactive X.env = false:=by simp [interactive,I.ok.kind]
noncomputable def tDrop (te:TE):TS:=fun D σ H => te σ H fun _ H1 => D.nx σ H1
theorem ps_expr (he:PE X e te) (hs:swapsWith e none pos.line X.env = pure false:=by rfl):PS X (.Expr e pos) (tDrop te):=by
  intro pins s σ H D I h
  exact wpAny_Expr_any (thn (he pins s σ H _ I h) fun v s1 ⟨x,H1,I1,r1,q1⟩ => ⟨σ,H1,I1,q1⟩) I.quiet hs
noncomputable def tRet (te:TE):TS:=fun D σ H => te σ H D.rt
theorem ps_ret (he:PE X e te):PS X (.Return (some e) pos) (tRet te):=by
  intro pins s σ H D I h
  exact wpAny_Return_some (thn (he pins s σ H _ I h) fun v s1 ⟨x,H1,I1,r1,q1⟩ => ⟨x,σ,H1,I1,r1,q1⟩)
noncomputable def tRetN:TS:=fun D _ H => D.rt .non H
noncomputable def tIfS (c:TT) (t u:TS):TS:=fun D σ H => c σ H fun b H1 => if b = true then t D σ H1 else u D σ H1
theorem ps_if {c:Expr} {a b:List Stmt} {tc:TT} (hc:PT X c tc) (ha:PSs X a t) (hb:PSs X b u):PS X (.If c a b pos) (tIfS tc t u):=by
  intro pins s σ H D I h
  refine wpAny_If (thn (hc pins s σ H _ I h) fun d s1 ⟨H1,I1,q1⟩ => ?_)
  cases d with
  | true => exact ha pins s1 σ H1 D I1 q1
  | false => exact hb pins s1 σ H1 D I1 q1
noncomputable def tNever:TS:=fun _ _ _ => False
theorem ps_never:PS X st tNever:=fun _ _ _ _ _ _ h => h.elim
end
noncomputable abbrev TG:=V -> St -> Hp -> (St -> Hp -> Prop) -> Prop
noncomputable abbrev TGs:=List V -> St -> Hp -> (St -> Hp -> Prop) -> Prop
noncomputable def PG (X:Cx) (target:Expr) (t:TG):Prop :=
  ∀ (pins:List (Addr×Obj)) (s:Shared) (σ:St) (H:Hp) (v:V) (u:Value) (Q:St -> Hp -> Prop),Inv X pins σ H s -> RelV v u -> t v σ H Q ->
    wpAny (model X.prog X.w) X.A (assign target X.env u) (fun _ s' => ∃ σ' H',Inv X pins σ' H' s' /\ Q σ' H') X.xe s
noncomputable def PGs (X:Cx) (ts:List Expr) (t:TGs):Prop :=
  ∀ (pins:List (Addr×Obj)) (s:Shared) (σ:St) (H:Hp) (vs:List V) (us:List Value) (Q:St -> Hp -> Prop),Inv X pins σ H s -> Vals vs us -> t vs σ H Q ->
    wpAny (model X.prog X.w) X.A (assignInOrder ((assignEach ts X.env).map (·.2)) us) (fun _ s' => ∃ σ' H',Inv X pins σ' H' s' /\ Q σ' H') X.xe s
noncomputable abbrev TSet:=V -> V -> V -> Hp -> (Hp -> Prop) -> Prop
noncomputable abbrev TIp:=V -> V -> Hp -> VK -> Prop
noncomputable def PIp (X:Cx) (op:Operator) (t:TIp):Prop :=
  ∀ (pins:List (Addr×Obj)) (s:Shared) (σ:St) (H:Hp) (x y:V) (v u:Value) (Q:VK),Inv X pins σ H s -> RelV x v -> RelV y u -> t x y H Q ->
    wpAny (model X.prog X.w) X.A (inplaceOp op v u) (EP X pins σ Q) X.xe s
section
variable {X:Cx} {pos:Pos}
noncomputable def gName (i:Nat):TG:=fun v σ H Q => Q (σ.set i (some v)) H
theorem pg_name {i:Nat} {x:Str} (hN:X.N.Nodup) (hi:X.N[i]? = some x) (hx:Loc X.env.scope x) (hf:X.fn x = true ∨ X.env.scope.names.lookup x = some .local:=by first | exact .inl rfl | exact .inr rfl | assumption):PG X (.Name x pos) (gName i):=by
  intro pins s σ H v u Q I r h
  exact wpAny_assign_Name (store_ok I hN hi hx r (fun s' I' => ⟨_,H,I',h⟩) hf)
noncomputable def gNil:TGs:=fun vs σ H Q => vs = [] /\ Q σ H
noncomputable def gCons (t:TG) (u:TGs):TGs:=fun vs σ H Q => ∃ v r,vs = v :: r /\ t v σ H fun σ' H' => u r σ' H' Q
theorem pgs_nil:PGs X [] gNil:=by
  intro pins s σ H vs us Q I r h
  obtain ⟨e,h⟩:=h
  subst e
  cases r
  exact assignInOrder_nil ⟨σ,H,I,h⟩
theorem pgs_cons {e:Expr} {es:List Expr} {t:TG} {u:TGs} (h1:PG X e t) (h2:PGs X es u)
    (hs:(assignEach (e :: es) X.env).map (·.2) = assign e X.env :: (assignEach es X.env).map (·.2):=by rfl):PGs X (e :: es) (gCons t u):=by
  intro pins s σ H vs us Q I r h
  obtain ⟨v,vr,e1,h⟩:=h
  subst e1
  cases r with
  | cons r rr =>
    rw [hs]
    refine assignInOrder_cons (thn (h1 pins s σ H _ _ _ I r h) fun _ s1 ⟨σ1,H1,I1,q1⟩ => ?_)
    exact h2 pins s1 σ1 H1 _ _ Q I1 rr q1
noncomputable def gTup (K:PySem.W.Frag) (n:Nat) (t:TGs):TG:=fun v σ H Q => ∃ a xs,v = .ref a /\ SqT K H a xs /\ xs.length = n /\ t xs σ H Q
theorem pg_tup {es:List Expr} {k:Nat} {t:TGs} {n:Nat} (hc:X.calm = true) (h:PGs X es t)
    (hn:(assignEach es X.env).length = n:=by rfl) (hst:(assignEach es X.env).findIdx? (·.1) = none:=by rfl):PG X (.Tuple es k pos) (gTup X.K n t):=by
  intro pins s σ H v u Q I r hw
  obtain ⟨a,xs,e1,hq,hl,hw⟩:=hw
  subst e1
  cases r
  obtain ⟨its,rv,ht,hz⟩:=I.tuple hq
  refine assign_Tuple_tuple (I.ok.hd hc) ht (by simp [hn,← hl,rv.length]) hst fun h' hx => ?_
  have I1:Inv X pins σ H { s with heap:=h' }:=I.kept (t':=s.toks) fun b o e => hx b o (Nat.ne_of_lt (Heap.lt_size e)) e
  exact h pins _ σ H xs _ Q I1 (by simpa using rv) hw
noncomputable def gSub (to ti:TE) (t:TSet):TG:=fun v σ H Q => to σ H fun o H1 => ti σ H1 fun i H2 => t o i v H2 fun H3 => Q σ H3
noncomputable def tAsg (te:TE) (g:TG):TS:=fun D σ H => te σ H fun x H1 => g x σ H1 D.nx
theorem ps_asg {tg e:Expr} {te:TE} {g:TG} (he:PE X e te) (hg:PG X tg g) (hs:swapsWithSole [tg] e pos.line X.env = pure false:=by rfl) (hw:swappedStores [tg] e X.env = pure none:=by rfl)
    (h1:(assignEach [tg] X.env).map (·.2) = [assign tg X.env]:=by rfl):PS X (.Assign [tg] e pos) (tAsg te g):=by
  intro pins s σ H D I h
  refine wpAny_Assign_stores (thn (he pins s σ H _ I h) fun v s1 ⟨x,H1,I1,r1,q1⟩ => ?_) hs hw
  rw [h1]
  exact thn (hg pins s1 σ H1 x v _ I1 r1 q1) fun _ s2 q => q
theorem ps_set {i:Nat} {x:Str} {e:Expr} {te:TE} {pos':Pos} (hN:X.N.Nodup) (hi:X.N[i]? = some x) (hx:Loc X.env.scope x) (he:PE X e te) (hs:swapsWith e (some (.Name x pos')) pos.line X.env = pure false:=by rfl) (hf:X.fn x = true ∨ X.env.scope.names.lookup x = some .local:=by first | exact .inl rfl | exact .inr rfl | assumption) :
    PS X (.Assign [.Name x pos'] e pos) (tAsg te (gName i)):=by
  intro pins s σ H D I h
  refine wpAny_Assign_Name (thn (he pins s σ H _ I h) fun v s1 ⟨y,H1,I1,r1,q1⟩ => ?_) hs
  exact store_ok I1 hN hi hx r1 (fun s2 I2 => ⟨_,H1,I2,q1⟩) hf
noncomputable def tPar (i j:Nat) (ta:TA):TS:=fun D σ H => ta σ H fun vs H1 => ∃ v w,vs = [v,w] /\ D.nx ((σ.set i (some v)).set j (some w)) H1
theorem ps_par {i j:Nat} {x y:Str} {a b:Expr} {ta:TA} {px py pt:Pos} {kt k2 pt2} (hc:X.calm = true) (hN:X.N.Nodup) (hi:X.N[i]? = some x) (hj:X.N[j]? = some y) (hij:i ≠ j)
    (hx:X.env.scope.names.lookup x = some .local) (hy:X.env.scope.names.lookup y = some .local) (ha:PA X [a,b] ta)
    (hw:swappedStores [.Tuple [.Name x px,.Name y py] kt pt] (.Tuple [a,b] k2 pt2) X.env = pure (some [x,y]))
    (hs:swapsWithSole [.Tuple [.Name x px,.Name y py] kt pt] (.Tuple [a,b] k2 pt2) pos.line X.env = pure false:=by rfl) :
    PS X (.Assign [.Tuple [.Name x px,.Name y py] kt pt] (.Tuple [a,b] k2 pt2) pos) (tPar i j ta):=by
  intro pins s σ H D I h
  rw [exec_Assign_arm]
  refine wpAny_bind (wpAny_standAt ?_)
  rw [hs]
  refine wpAny_bind (wpAny_pure ?_)
  rw [if_neg (by decide)]
  refine wpAny_bind (Tuple_ (thn (ha _ pins s σ H _ I h) fun us s1 ⟨vs,H1,I1,r1,q1⟩ => ?_))
  obtain ⟨v,w,e1,q1⟩:=q1
  subst e1
  obtain ⟨u1,u2,rfl,rv,rw'⟩:∃ u1 u2,us = [u1,u2] /\ RelV v u1 /\ RelV w u2:=by
    cases r1 with
    | cons p q =>
      cases q with
      | cons p' q' =>
        cases q'
        exact ⟨_,_,rfl,p,p'⟩
  refine wpAny_newObj_type ?_ (by show 2 <= sizeLine; decide)
  have I2:Inv X pins σ H1 { s1 with heap:=s1.heap.push { cls:=.type "tuple",data:=.seq [u1,u2].toArray } }:=I1.kept (t':=s1.toks) fun b o e => Heap.get?_push_of_some _ e
  rw [hw]
  refine wpAny_bind (wpAny_pure ?_)
  show wpAny (model X.prog X.w) X.A (do rule "assign.swapped-stores"; let items ← unpackItems (.ref s1.heap.objs.size) 2 none; assignInOrder [fun v => bindName X.env y v,fun v => bindName X.env x v] items.reverse; pure Flow.next) _ _ _
  refine wpAny_bind (wpAny_rule (wpAny_bind (unpackItems_tuple (items:=#[u1,u2]) (I.ok.hd hc) (IsTup.new s1.heap _) fun h' hx' => ?_)))
  have I3:=I2.kept (h':=h') (t':=s1.toks) fun b o e => hx' b o (Nat.ne_of_lt (Heap.lt_size e)) e
  show wpAny _ _ (assignInOrder [fun v => bindName X.env y v,fun v => bindName X.env x v] [u2,u1] >>= fun _ => pure Flow.next) _ _ _
  refine wpAny_bind (assignInOrder_cons (wpAny_bindName (store_ok I3 hN hj (.inl hy) rw' (fun s2 I4 => ?_) (.inr hy))))
  refine assignInOrder_cons (wpAny_bindName (store_ok I4 hN hi (.inl hx) rv (fun s3 I5 => assignInOrder_nil (wpAny_pure ?_)) (.inr hx)))
  rw [List.set_comm _ _ (Ne.symm hij)] at I5
  exact ⟨_,H1,I5,q1⟩
noncomputable def tAug (i:Nat) (te:TE) (ti:TIp):TS:=fun D σ H => ∃ x,σ[i]? = some (some x) /\ te σ H fun y H1 => ti x y H1 fun z H2 => D.nx (σ.set i (some z)) H2
theorem ps_aug {i:Nat} {x:Str} {e:Expr} {te:TE} {op:Operator} {ti:TIp} {pos':Pos} (hN:X.N.Nodup) (hi:X.N[i]? = some x) (hx:Loc X.env.scope x) (he:PE X e te) (ho:PIp X op ti) (hf:X.fn x = true ∨ X.env.scope.names.lookup x = some .local:=by first | exact .inl rfl | exact .inr rfl | assumption) :
    PS X (.AugAssign (.Name x pos') op e pos) (tAug i te ti):=by
  intro pins s σ H D I h
  obtain ⟨v,e1,h⟩:=h
  obtain ⟨m,hn,hl⟩:=I.loc
  have vis:Vis X.env.scope x:=by rcases hx with k | k; exact .inl k; exact .inr (.inl k)
  obtain ⟨u,r,l⟩:=hl i x v hi e1 vis
  refine wpAny_AugAssign_Name ?_
  have go:wpAny (model X.prog X.w) X.A (eval e X.env) (fun w s₂ => wpAny (model X.prog X.w) X.A (inplaceOp op u w) (fun r s₃ => wpAny (model X.prog X.w) X.A (storeName X.env x r) (fun _ => SP X pins D .next) X.xe s₃) X.xe s₂) X.xe s:=by
    refine thn (he pins s σ H _ I h) fun w s1 ⟨y,H1,I1,r1,q1⟩ => ?_
    refine thn (ho pins s1 σ H1 v y u w _ I1 r r1 q1) fun z s2 ⟨zv,H2,I2,r2,q2⟩ => ?_
    exact store_ok I2 hN hi hx r2 (fun s3 I3 => ⟨_,H2,I3,q2⟩) hf
  rcases l with ⟨hk,hm⟩ | ⟨hk,c,hc,hcell⟩
  . exact wpAny_loadName_local I.ok.kind hk hn hm go
  . rcases hk with hk | hk
    . exact wpAny_loadName_cell I.ok.kind hk hc hcell go
    . rcases hx with k | k
      . have:X.env.scope.names.lookup x = some .free:=hk
        rw [k] at this; cases this
      . have:X.env.scope.names.lookup x = some .free:=hk
        rw [k] at this; cases this
noncomputable def ipI (f:Int -> Int -> Int):TIp:=fun x y H Q => ∃ i j,x = .int i /\ y = .int j /\ Q (.int (f i j)) H
theorem ip_add:PIp X .Add (ipI fun i j => i + j):=by
  intro pins s σ H x y v u Q I r1 r2 h
  obtain ⟨i,j,e1,e2,q⟩:=h
  subst e1; subst e2
  obtain ⟨t,rfl⟩:=r1
  obtain ⟨t',rfl⟩:=r2
  exact iadd_int ⟨.int _,H,I.tok _,⟨_,rfl⟩,q⟩
end
section
variable {X:Cx} {pos:Pos}
noncomputable def tWhile (c:TT) (tb:TS):TS:=fun D σ H => ∃ W:Nat -> St -> Hp -> Prop,(∃ m,W m σ H) /\ ∀ m σ H,W m σ H ->
  c σ H fun b H1 => if b = true then ∃ N:St -> Hp -> Prop,(∀ σ' H',N σ' H' -> ∃ m',m' < m /\ W m' σ' H') /\ tb { D with nx:=N,ct:=N,bk:=D.nx } σ H1 else D.nx σ H1
theorem ps_while {c:Expr} {body:List Stmt} {tc:TT} {tb:TS} (hp:PassesOwn (model X.prog X.w) X.A X.env X.xe) (hc:PT X c tc) (hb:PSs X body tb):PS X (.While c body [] pos) (tWhile tc tb):=by
  intro pins s σ H D I h
  obtain ⟨W,⟨m0,w0⟩,turn⟩:=h
  refine wpAny_While (codeAny_whileLoop (fun n s' => ∃ σ' H',Inv X pins σ' H' s' /\ W n σ' H') ?_ m0 ⟨σ,H,I,w0⟩)
  rintro n s1 ⟨σ1,H1,I1,w1⟩
  refine wpAny_passesOwn hp (thn (hc pins s1 σ1 H1 _ I1 (turn n σ1 H1 w1)) fun b s2 ⟨H2,I2,q2⟩ => ?_)
  cases b with
  | true =>
    obtain ⟨N,hN,q2⟩:=q2
    rw [if_pos rfl]
    refine wpAny_passesOwn hp (thn (hb pins s2 σ1 H2 _ I2 q2) fun f s3 q3 => ?_)
    cases f with
    | next =>
      obtain ⟨σ3,H3,I3,n3⟩:=q3
      obtain ⟨m',hm,w3⟩:=hN σ3 H3 n3
      exact ⟨m',hm,σ3,H3,I3,w3⟩
    | cont =>
      obtain ⟨σ3,H3,I3,n3⟩:=q3
      obtain ⟨m',hm,w3⟩:=hN σ3 H3 n3
      exact ⟨m',hm,σ3,H3,I3,w3⟩
    | brk => exact q3
    | ret v => exact q3
  | false =>
    rw [if_neg Bool.false_ne_true]
    exact wpAny_execs_nil ⟨σ1,H2,I2,q2⟩
end
structure It where
  go:Nat -> Hp -> Prop
  yld:Nat -> Hp -> V -> Hp -> Prop
  stop:Nat -> Hp -> Prop
noncomputable def FpOk (X:Cx) (pins:List (Addr×Obj)) (H:Hp) (b:Addr):Prop :=
  H b = none /\ b ≠ X.env.locals /\ b ∉ X.fs /\ (b ∈ X.ex ∨ X.s₀.heap.objs.size <= b) /\ (∀ x c,X.env.cells.lookup x = some c -> c ≠ b) /\ ∀ p ∈ X.pn ++ pins,p.1 ≠ b
theorem Inv.fpOk {X:Cx} {pins:List (Addr×Obj)} {σ:St} {H H':Hp} {s:Shared} {b:Addr} (I:Inv X pins σ H s) (hb:s.heap.objs.size <= b) (hn:H' b = none):FpOk X pins H' b:=by
  refine ⟨hn,Nat.ne_of_gt (Nat.lt_of_lt_of_le I.lt hb),I.nofs hb,.inr (Nat.le_trans I.sz hb),fun x c e z => ?_,fun p hp z => ?_⟩
  . obtain ⟨v,q⟩:=I.cell x c e
    exact absurd (Nat.lt_of_lt_of_le q.lt (by rw [z]; exact hb)) (Nat.lt_irrefl _)
  . exact absurd (Nat.lt_of_lt_of_le (Heap.lt_size (I.pin p hp).1) (by rw [z]; exact hb)) (Nat.lt_irrefl _)
structure Turn (P:Program) (w:World) (K:PySem.W.Frag) (tg:Expr) (J:It) (fp:List Addr) (it:Addr) (tn:Nat -> Heap -> Prop):Prop where
  mem:it ∈ fp
  obj:∀ i h,tn i h -> ∀ b ∈ fp,∃ o,h.get? b = some o /\ ∀ v,o.data ≠ .cell v
  keep:∀ i h h',tn i h -> (∀ b ∈ fp,∀ o,h.get? b = some o -> h'.get? b = some o) -> tn i h'
  item:∀ (X:Cx),X.prog = P -> X.w = w -> X.K = K -> X.calm = true -> ∀ (i:Nat) (pins:List (Addr×Obj)) (s:Shared) (σ:St) (H:Hp) (E:Value -> Shared -> Prop),Inv X pins σ H s -> (∀ b ∈ fp,FpOk X pins H b) -> tn i s.heap -> J.go i H ->
    wpAny (model P w) X.A (pyNext (.ref it)) (fun r s1 => ∃ u,r = some u /\
      wpAny (model P w) X.A (letOwnedTupleGo tg (.ref it) u) (fun _ s2 => ∃ x H',Inv X pins σ H' s2 /\ RelV x u /\ J.yld i H x H' /\ tn (i + 1) s2.heap /\ ∀ b ∈ fp,H' b = none) E s1) E s
  done:∀ (X:Cx),X.prog = P -> X.w = w -> X.K = K -> X.calm = true -> ∀ (i:Nat) (pins:List (Addr×Obj)) (s:Shared) (σ:St) (H:Hp) (E:Value -> Shared -> Prop),Inv X pins σ H s -> (∀ b ∈ fp,FpOk X pins H b) -> tn i s.heap -> J.stop i H ->
    wpAny (model P w) X.A (pyNext (.ref it)) (fun r s1 => r = none /\ Inv X pins σ H s1) E s
  self:∀ (A:Around) (i:Nat) (s:Shared) (Q:Value -> Shared -> Prop) (E:Value -> Shared -> Prop),tn i s.heap -> Q (.ref it) s -> wpAny (model P w) A (pyIter (.ref it)) Q E s
noncomputable abbrev TI:=St -> Hp -> (It -> Hp -> Prop) -> Prop
noncomputable def PIE (X:Cx) (pins:List (Addr×Obj)) (σ:St) (tg:Expr) (R:It -> Hp -> Prop) (itv:Value) (s2:Shared):Prop :=
  ∃ (it:Addr) (fp:List Addr) (tn:Nat -> Heap -> Prop) (J:It) (H':Hp),itv = .ref it /\ Inv X pins σ H' s2 /\ Turn X.prog X.w X.K tg J fp it tn /\ tn 0 s2.heap /\ (∀ b ∈ fp,FpOk X pins H' b) /\ R J H'
noncomputable def PI (X:Cx) (tg iter:Expr) (wi:TI):Prop :=
  ∀ (pins:List (Addr×Obj)) (s:Shared) (σ:St) (H:Hp) (R:It -> Hp -> Prop),Inv X pins σ H s -> wi σ H R ->
    wpAny (model X.prog X.w) X.A (eval iter X.env) (fun v s1 => wpAny (model X.prog X.w) X.A (pyIter v) (PIE X pins σ tg R) X.xe s1) X.xe s
theorem go_of {M:Model} {A:Around} {E:Value -> Shared -> Prop} {s:Shared} {tg:Expr} {it:Addr} {u:Value} {o:Obj} {n:String} {vs:Array Value} {Q:Unit -> Shared -> Prop} (ho:s.heap.get? it = some o) (hc:o.cls = .type n) (hd:o.data = .fields vs)
    (hn:["enumerate","zip","dict_itemiterator","dict_reverseitemiterator","odict_iterator","itertools.zip_longest","itertools.pairwise"].contains n = false) (hQ:Q () s):wpAny M A (letOwnedTupleGo tg (.ref it) u) Q E s:=by
  unfold letOwnedTupleGo
  cases tg <;> first
    | exact wpAny_pure hQ
    | (cases u <;> first
        | exact wpAny_pure hQ
        | (refine wpAny_bind (wpAny_load ho ?_)
           rw [hc,hd]
           show wpAny M A (if (["enumerate","zip","dict_itemiterator","dict_reverseitemiterator","odict_iterator","itertools.zip_longest","itertools.pairwise"].contains n && vs[0]? == some (rawInt _)) = true then _ else _) Q E s
           rw [if_neg (by intro h; rw [hn,Bool.false_and] at h; cases h)]
           exact wpAny_pure hQ))
noncomputable def Itl (K:PySem.W.Frag) (a:Addr):It :=
  ⟨fun i H => ∃ xs x,SqL K H a xs /\ xs[i]? = some x,fun i H x H' => H' = H /\ ∀ xs,SqL K H a xs -> xs[i]? = some x,fun i H => ∃ xs,SqL K H a xs /\ xs.length <= i⟩
noncomputable def Itt (K:PySem.W.Frag) (a:Addr):It :=
  ⟨fun i H => ∃ xs x,SqT K H a xs /\ xs[i]? = some x,fun i H x H' => H' = H /\ ∀ xs,SqT K H a xs -> xs[i]? = some x,fun i H => ∃ xs,SqT K H a xs /\ xs.length <= i⟩
noncomputable def Itr (lo:Int) (n:Nat):It:=⟨fun i _ => i < n,fun i H x H' => H' = H /\ x = .int (lo + i),fun i _ => n <= i⟩
theorem turn_list {P:Program} {w:World} {K:PySem.W.Frag} {tg:Expr} (a it:Addr):Turn P w K tg (Itl K a) [it] it (fun i h => h.IsListIter it a i) where
  mem:=by simp
  obj:=fun i h st b hb => by
    have e:b = it:=by simpa using hb
    subst e
    obtain ⟨o,e,c,d⟩:=st
    exact ⟨o,e,fun v z => by rw [d] at z; cases z⟩
  keep:=fun i h h' st k => st.at fun o e => k it (by simp) o e
  item:=by
    intro X hP hw hK hc i pins s σ H E I hf st hg
    subst hP hw hK
    obtain ⟨xs,x,hq,hx⟩:=hg
    obtain ⟨its,rv,p,hz⟩:=I.list hq
    obtain ⟨u,hu,ru⟩:=rv.get hx
    obtain ⟨f0,f1,f2,f3,f4,f5⟩:=hf it (by simp)
    refine wpAny_pyNext_list_item st p.isList (x:=u) (by simpa using hu) fun h' st' sb => ?_
    have I1:Inv X pins σ H { s with heap:=h' }:=I.turned (t':=s.toks) (fun b o hb e => (sb.2 b hb).trans e) f0 f1 f3 f4 f5
    obtain ⟨o,e,c,d⟩:=id st'
    exact ⟨u,rfl,go_of (s:={ s with heap:=h' }) e c d (by decide) ⟨x,H,I1,ru,⟨rfl,fun ys hy => by rw [I.list_inj hy hq]; exact hx⟩,st',fun b hb => (hf b hb).1⟩⟩
  done:=by
    intro X hP hw hK hc i pins s σ H E I hf st hg
    subst hP hw hK
    obtain ⟨xs,hq,hx⟩:=hg
    obtain ⟨its,rv,p,hz⟩:=I.list hq
    obtain ⟨f0,f1,f2,f3,f4,f5⟩:=hf it (by simp)
    have hl:=rv.length
    exact wpAny_pyNext_list_end (I.ok.hd hc) st p.isList (by simp; omega) fun h' eb => ⟨rfl,I.turned (t':=s.toks) (fun b o hb e => eb b o hb e) f0 f1 f3 f4 f5⟩
  self:=fun _ _ _ _ _ st h => wpAny_pyIter_listiter st h
theorem turn_tuple {P:Program} {w:World} {K:PySem.W.Frag} {tg:Expr} (a it:Addr):Turn P w K tg (Itt K a) [it] it (fun i h => h.IsTupleIter it a i) where
  mem:=by simp
  obj:=fun i h st b hb => by
    have e:b = it:=by simpa using hb
    subst e
    obtain ⟨o,e,c,d⟩:=st
    exact ⟨o,e,fun v z => by rw [d] at z; cases z⟩
  keep:=fun i h h' st k => st.at fun o e => k it (by simp) o e
  item:=by
    intro X hP hw hK hc i pins s σ H E I hf st hg
    subst hP hw hK
    obtain ⟨xs,x,hq,hx⟩:=hg
    obtain ⟨its,rv,p,hz⟩:=I.tuple hq
    obtain ⟨u,hu,ru⟩:=rv.get hx
    obtain ⟨f0,f1,f2,f3,f4,f5⟩:=hf it (by simp)
    refine wpAny_pyNext_tuple_item st (show s.heap.IsTuple a its.toArray from p) (x:=u) (by simpa using hu) fun h' st' sb => ?_
    have I1:Inv X pins σ H { s with heap:=h' }:=I.turned (t':=s.toks) (fun b o hb e => (sb.2 b hb).trans e) f0 f1 f3 f4 f5
    obtain ⟨o,e,c,d⟩:=id st'
    exact ⟨u,rfl,go_of (s:={ s with heap:=h' }) e c d (by decide) ⟨x,H,I1,ru,⟨rfl,fun ys hy => by rw [I.tuple_inj hy hq]; exact hx⟩,st',fun b hb => (hf b hb).1⟩⟩
  done:=by
    intro X hP hw hK hc i pins s σ H E I hf st hg
    subst hP hw hK
    obtain ⟨xs,hq,hx⟩:=hg
    obtain ⟨its,rv,p,hz⟩:=I.tuple hq
    obtain ⟨f0,f1,f2,f3,f4,f5⟩:=hf it (by simp)
    have hl:=rv.length
    exact wpAny_pyNext_tuple_end (I.ok.hd hc) st (show s.heap.IsTuple a its.toArray from p) (by simp; omega) fun h' eb => ⟨rfl,I.turned (t':=s.toks) (fun b o hb e => eb b o hb e) f0 f1 f3 f4 f5⟩
  self:=fun _ _ _ _ _ st h => wpAny_pyIter_tupleiter st h
theorem turn_range {P:Program} {w:World} {K:PySem.W.Frag} {tg:Expr} (it:Addr) (lo:Int) (n:Nat):Turn P w K tg (Itr lo n) [it] it (fun i h => IsRangeIter h it (lo + (i:Nat) * 1) ((n:Int) - (i:Nat)) 1) where
  mem:=by simp
  obj:=fun i h st b hb => by
    have e:b = it:=by simpa using hb
    subst e
    exact ⟨_,st,fun v z => by
      have z':Data.fields _ = Data.cell v:=z
      cases z'⟩
  keep:=fun i h h' st k => k it (by simp) _ st
  item:=by
    intro X hP hw hK hc i pins s σ H E I hf st hg
    subst hP hw hK
    obtain ⟨f0,f1,f2,f3,f4,f5⟩:=hf it (by simp)
    have W:=Walks.range (prog:=X.prog) (w:=X.w) (I.ok.hd hc) it lo 1 n
    refine W.item i s _ _ hg st fun v h' tk hv st' kk => ?_
    obtain ⟨t,rfl⟩:=hv
    have I1:Inv X pins σ H { s with heap:=h',toks:=tk }:=I.turned (fun b o hb e => kk b o (by simpa using hb) e) f0 f1 f3 f4 f5
    refine ⟨_,rfl,go_of (s:={ s with heap:=h',toks:=tk }) (n:="range_iterator") st' rfl rfl (by decide) ⟨.int (lo + i),H,I1,⟨t,?_⟩,⟨rfl,rfl⟩,st',fun b hb => (hf b hb).1⟩⟩
    rw [Int.mul_one]
  done:=by
    intro X hP hw hK hc i pins s σ H E I hf st hg
    subst hP hw hK
    obtain ⟨f0,f1,f2,f3,f4,f5⟩:=hf it (by simp)
    exact wpAny_pyNext_range_end (I.ok.hd hc) st (by have:n <= i:=hg; omega) fun h' eb => ⟨rfl,I.turned (t':=s.toks) (fun b o hb e => eb b o hb e) f0 f1 f3 f4 f5⟩
  self:=fun _ _ _ _ _ st h => wpAny_pyIter_rangeiter st h
end L2
namespace L2
open PySem PySem.Spec PyProof.Rows
section
variable {X:Cx} {tg:Expr}
noncomputable def iList (K:PySem.W.Frag) (tl:TE):TI:=fun σ H R => tl σ H fun x H1 => ∃ a,x = .ref a /\ (∃ xs,SqL K H1 a xs) /\ R (Itl K a) H1
noncomputable def iTup (K:PySem.W.Frag) (tl:TE):TI:=fun σ H R => tl σ H fun x H1 => ∃ a,x = .ref a /\ (∃ xs,SqT K H1 a xs) /\ R (Itt K a) H1
theorem pi_list {l:Expr} {tl:TE} (hl:PE X l tl):PI X tg l (iList X.K tl):=by
  intro pins s σ H R I h
  refine thn (hl pins s σ H _ I h) fun v s1 ⟨x,H1,I1,r1,q1⟩ => ?_
  obtain ⟨a,e,⟨xs,hq⟩,q⟩:=q1
  subst e
  cases r1
  obtain ⟨its,rv,p,hz⟩:=I1.list hq
  refine wpAny_pyIter_list p.isList ?_
  refine ⟨s1.heap.objs.size,[s1.heap.objs.size],_,_,H1,rfl,I1.kept (t':=s1.toks) fun b o e => Heap.get?_push_of_some _ e,turn_list a _,⟨_,Heap.get?_push_size _ rfl,rfl,rfl⟩,fun b hb => ?_,q⟩
  have e:b = s1.heap.objs.size:=by simpa using hb
  subst e
  exact I1.fpOk (Nat.le_refl _) (I1.hok.fresh (Nat.le_refl _))
theorem pi_tup {l:Expr} {tl:TE} (hl:PE X l tl):PI X tg l (iTup X.K tl):=by
  intro pins s σ H R I h
  refine thn (hl pins s σ H _ I h) fun v s1 ⟨x,H1,I1,r1,q1⟩ => ?_
  obtain ⟨a,e,⟨xs,hq⟩,q⟩:=q1
  subst e
  cases r1
  obtain ⟨its,rv,p,hz⟩:=I1.tuple hq
  refine wpAny_pyIter_tuple (show s1.heap.IsTuple a its.toArray from p) ?_
  refine ⟨s1.heap.objs.size,[s1.heap.objs.size],_,_,H1,rfl,I1.kept (t':=s1.toks) fun b o e => Heap.get?_push_of_some _ e,turn_tuple a _,⟨_,Heap.get?_push_size _ rfl,rfl,rfl⟩,fun b hb => ?_,q⟩
  have e:b = s1.heap.objs.size:=by simpa using hb
  subst e
  exact I1.fpOk (Nat.le_refl _) (I1.hok.fresh (Nat.le_refl _))
theorem range_it {pins:List (Addr×Obj)} {σ:St} {H:Hp} {s:Shared} {R:It -> Hp -> Prop} {E:Value -> Shared -> Prop} {lo hi:Int} {t u v:Tok} {tk:Nat} (I:Inv X pins σ H s) (h1:-(2 ^ 62) <= lo) (h2:lo < 2 ^ 62) (h3:-(2 ^ 62) <= hi) (h4:hi < 2 ^ 62)
    (q:R (Itr lo (hi - lo).toNat) H):wpAny (model X.prog X.w) X.A (pyIter (.ref s.heap.objs.size)) (PIE X pins σ tg R) E { s with heap:=s.heap.push { cls:=.type "range",data:=.fields #[.int lo t,.int hi u,.int 1 v] },toks:=tk }:=by
  refine wpAny_pyIter_range (IsRange.new ..) (small_one h1 h2 h3 h4) ?_
  have I1:Inv X pins σ H { s with heap:=s.heap.push { cls:=.type "range",data:=.fields #[.int lo t,.int hi u,.int 1 v] },toks:=tk }:=I.kept fun b o e => Heap.get?_push_of_some _ e
  refine ⟨(s.heap.push { cls:=.type "range",data:=.fields #[.int lo t,.int hi u,.int 1 v] }).objs.size,[(s.heap.push { cls:=.type "range",data:=.fields #[.int lo t,.int hi u,.int 1 v] }).objs.size],_,_,H,rfl,
    I1.kept (t':=tk) fun b o e => Heap.get?_push_of_some _ e,turn_range _ lo (hi - lo).toNat,?_,fun b hb => ?_,q⟩
  . have e1:lo + ((0:Nat):Int) * 1 = lo:=by simp
    have e2:(((hi - lo).toNat:Nat):Int) - ((0:Nat):Int) = Builtin.Range.rangeSize lo hi 1:=by rw [rangeSize_one]; split <;> omega
    show IsRangeIter _ _ (lo + ((0:Nat):Int) * 1) ((((hi - lo).toNat:Nat):Int) - ((0:Nat):Int)) 1
    rw [e1,e2]
    exact Heap.get?_push_size _ rfl
  . have e:b = (s.heap.push { cls:=.type "range",data:=.fields #[.int lo t,.int hi u,.int 1 v] }).objs.size:=by simpa using hb
    subst e
    exact I1.fpOk (Nat.le_refl _) (I1.hok.fresh (Nat.le_refl _))
noncomputable def iRng1 (ta:TA):TI:=fun σ H R => ta σ H fun vs H1 => ∃ j:Int,vs = [.int j] /\ -(2 ^ 62) <= j /\ j < 2 ^ 62 /\ R (Itr 0 j.toNat) H1
noncomputable def iRng2 (ta:TA):TI:=fun σ H R => ta σ H fun vs H1 => ∃ i j:Int,vs = [.int i,.int j] /\ (-(2 ^ 62) <= i /\ i < 2 ^ 62 /\ -(2 ^ 62) <= j /\ j < 2 ^ 62) /\ R (Itr i (j - i).toNat) H1
theorem pi_range1 {a:Expr} {ta:TA} {p pos:Pos} (hg:Gl X "range") (hm:X.mg "range" = none) (ha:PA X [a] ta) (hs:starEach [a] X.env = [(false,eval a X.env)]:=by rfl):PI X tg (.Call (.Name "range" p) [a] [] pos) (iRng1 ta):=by
  intro pins s σ H R I h
  refine Call_ (ld_blt I hg hm boot_range (PyProof.Rows.callWith_type1 (thn (ha pos pins s σ H _ I h) fun us s1 ⟨vs,H1,I1,r1,q1⟩ => ?_) hs rfl))
  obtain ⟨j,e,q1,q2,q⟩:=q1
  subst e
  cases r1 with
  | cons r rr =>
    cases rr
    obtain ⟨t,rfl⟩:=r
    exact call_range_1 (range_it I1 (by omega) (by omega) q1 q2 (by simpa using q))
theorem pi_range2 {a b:Expr} {ta:TA} {p pos:Pos} (hg:Gl X "range") (hm:X.mg "range" = none) (ha:PA X [a,b] ta) (hs:starEach [a,b] X.env = [(false,eval a X.env),(false,eval b X.env)]:=by rfl) (hs2:starEach [b] X.env = [(false,eval b X.env)]:=by rfl) :
    PI X tg (.Call (.Name "range" p) [a,b] [] pos) (iRng2 ta):=by
  intro pins s σ H R I h
  refine Call_ (ld_blt I hg hm boot_range (PyProof.Rows.callWith_type1 (thn (ha pos pins s σ H _ I h) fun us s1 ⟨vs,H1,I1,r1,q1⟩ => ?_) (by rw [hs,hs2]) (by rw [hs2]; rfl)))
  obtain ⟨i,j,e,⟨q1,q2,q3,q4⟩,q⟩:=q1
  subst e
  cases r1 with
  | cons r rr =>
    cases rr with
    | cons r' rr =>
      cases rr
      obtain ⟨t,rfl⟩:=r
      obtain ⟨t',rfl⟩:=r'
      exact call_range_2 (range_it I1 q1 q2 q3 q4 q)
noncomputable def tFor (wi:TI) (g:TG) (tb:TS):TS:=fun D σ H => wi σ H fun J H1 => ∃ W:Nat -> Nat -> St -> Hp -> Prop,(∃ m,W 0 m σ H1) /\ ∀ i m σ H,W i m σ H ->
  (J.stop i H /\ D.nx σ H) ∨ (J.go i H /\ ∃ N:St -> Hp -> Prop,(∀ σ' H',N σ' H' -> ∃ m',m' < m /\ W (i + 1) m' σ' H') /\ ∀ x H',J.yld i H x H' -> g x σ H' fun σ2 H2 => tb { D with nx:=N,ct:=N,bk:=D.nx } σ2 H2)
noncomputable def pinsAt (fp:List Addr) (h:Heap):List (Addr×Obj):=fp.filterMap fun b => (h.get? b).map fun o => (b,o)
theorem mem_pinsAt {fp:List Addr} {h:Heap} {b:Addr} {o:Obj} (hb:b ∈ fp) (e:h.get? b = some o):(b,o) ∈ pinsAt fp h:=List.mem_filterMap.mpr ⟨b,hb,by rw [e]; rfl⟩
theorem of_pinsAt {fp:List Addr} {h:Heap} {p:Addr×Obj} (hp:p ∈ pinsAt fp h):p.1 ∈ fp /\ h.get? p.1 = some p.2:=by
  obtain ⟨b,hb,e⟩:=List.mem_filterMap.mp hp
  cases q:h.get? b with
  | none => rw [q] at e; cases e
  | some o =>
    rw [q] at e
    have e':(b,o) = p:=Option.some.inj e
    subst e'
    exact ⟨hb,q⟩
theorem Inv.pinned {pins:List (Addr×Obj)} {σ:St} {H:Hp} {s:Shared} {fp:List Addr} (I:Inv X pins σ H s) (hf:∀ b ∈ fp,FpOk X pins H b) (ho:∀ b ∈ fp,∃ o,s.heap.get? b = some o /\ ∀ v,o.data ≠ .cell v):Inv X (pins ++ pinsAt fp s.heap) σ H s :=
  I.pins_of fun p hp => (List.mem_append.mp hp).elim (fun z => I.pin p (List.mem_append_right _ z)) fun z => by
    obtain ⟨hb,e⟩:=of_pinsAt z
    obtain ⟨f0,f1,f2,_⟩:=hf p.1 hb
    obtain ⟨o,e',d⟩:=ho p.1 hb
    rw [e] at e'; cases e'
    exact ⟨e,f0,f1,f2,d⟩
theorem Inv.unpinned {pins pl:List (Addr×Obj)} {σ:St} {H:Hp} {s:Shared} (I:Inv X (pins ++ pl) σ H s):Inv X pins σ H s:=I.pins_of fun p hp => I.pin p (List.mem_append_right _ (List.mem_append_left _ hp))
theorem ps_for {iter:Expr} {body:List Stmt} {wi:TI} {g:TG} {tb:TS} {pos:Pos} (hp:PassesOwn (model X.prog X.w) X.A X.env X.xe) (hc:X.calm = true) (hi:PI X tg iter wi) (hg:PG X tg g) (hb:PSs X body tb)
    (hs:∀ x,foldedSetIterable iter X.env x = pure x:=by intro _; rfl):PS X (.For tg iter body [] pos) (tFor wi g tb):=by
  intro pins s σ H D I h
  refine wpAny_For (thn (hi pins s σ H _ I h) fun v s1 h1 => thn h1 fun itv s2 h2 => ?_) hs
  obtain ⟨it,fp,tn,J,H2,e,I2,T,st2,f2,W,⟨m0,w0⟩,turn⟩:=h2
  subst e
  -- what stays true of the iterator's objects through the loop
  have stat:∀ {H':Hp},(∀ b ∈ fp,H' b = none) -> ∀ b ∈ fp,FpOk X pins H' b:=fun hn b hb => ⟨hn b hb,(f2 b hb).2⟩
  refine codeAny_forLoop_any (fun n s' => ∃ i σ' H',Inv X pins σ' H' s' /\ tn i s'.heap /\ (∀ b ∈ fp,H' b = none) /\ W i n σ' H') ?_ m0 ⟨0,σ,H2,I2,st2,fun b hb => (f2 b hb).1,w0⟩
  rintro n s3 ⟨i,σ3,H3,I3,st3,fr3,w3⟩
  rcases turn i n σ3 H3 w3 with ⟨stop,qn⟩ | ⟨go,N,hN,step⟩
  . refine wpAny_passesOwn hp (thn (T.done X rfl rfl rfl hc i pins s3 σ3 H3 X.xe I3 (stat fr3) st3 stop) fun r s4 ⟨hr,I4⟩ => ?_)
    subst hr
    exact wpAny_execs_nil ⟨σ3,H3,I4,qn⟩
  . refine wpAny_passesOwn hp (thn (T.item X rfl rfl rfl hc i pins s3 σ3 H3 X.xe I3 (stat fr3) st3 go) fun r s4 ⟨u,hr,h4⟩ => ?_)
    subst hr
    refine wpAny_passesOwn hp (thn h4 fun _ s5 ⟨x,H5,I5,r5,y5,st5,fr5⟩ => ?_)
    have I5':=I5.pinned (stat fr5) (T.obj _ _ st5)
    refine wpAny_passesOwn hp (thn (hg _ s5 σ3 H5 x u _ I5' r5 (step x H5 y5)) fun _ s6 ⟨σ6,H6,I6,q6⟩ => ?_)
    refine wpAny_passesOwn hp (thn (hb _ s6 σ6 H6 _ I6 q6) fun f s7 q7 => ?_)
    have again:∀ {σ7:St} {H7:Hp},Inv X (pins ++ pinsAt fp s5.heap) σ7 H7 s7 -> N σ7 H7 -> ∃ m,m < n /\ ∃ i σ' H',Inv X pins σ' H' s7 /\ tn i s7.heap /\ (∀ b ∈ fp,H' b = none) /\ W i m σ' H':=fun {σ7 H7} I7 n7 => by
      obtain ⟨m',hm,w7⟩:=hN σ7 H7 n7
      refine ⟨m',hm,i + 1,σ7,H7,I7.unpinned,T.keep _ _ _ st5 fun b hb o e => (I7.pin (b,o) (List.mem_append_right _ (List.mem_append_right _ (mem_pinsAt hb e)))).1,fun b hb => ?_,w7⟩
      obtain ⟨o,e,d⟩:=T.obj _ _ st5 b hb
      exact (I7.pin (b,o) (List.mem_append_right _ (List.mem_append_right _ (mem_pinsAt hb e)))).2.1
    cases f with
    | next => obtain ⟨σ7,H7,I7,n7⟩:=q7; exact again I7 n7
    | cont => obtain ⟨σ7,H7,I7,n7⟩:=q7; exact again I7 n7
    | brk => obtain ⟨σ7,H7,I7,q7⟩:=q7; exact ⟨σ7,H7,I7.unpinned,q7⟩
    | ret v => obtain ⟨x7,σ7,H7,I7,r7,q7⟩:=q7; exact ⟨x7,σ7,H7,I7.unpinned,r7,q7⟩
end
theorem for_list {K:PySem.W.Frag} {a:Addr} {xs:List V} {g:TG} {tb:TS} {D:Ends} {σ:St} {H:Hp} (Pv:Nat -> St -> Hp -> Prop) (h0:Pv 0 σ H) (hl:∀ i σ H,i <= xs.length -> Pv i σ H -> SqL K H a xs)
    (hs:∀ i x σ H,xs[i]? = some x -> Pv i σ H -> g x σ H fun σ2 H2 => tb { D with nx:=Pv (i + 1),ct:=Pv (i + 1),bk:=D.nx } σ2 H2) (hd:∀ σ H,Pv xs.length σ H -> D.nx σ H) :
    ∃ W:Nat -> Nat -> St -> Hp -> Prop,(∃ m,W 0 m σ H) /\ ∀ i m σ H,W i m σ H ->
      ((Itl K a).stop i H /\ D.nx σ H) ∨ ((Itl K a).go i H /\ ∃ N:St -> Hp -> Prop,(∀ σ' H',N σ' H' -> ∃ m',m' < m /\ W (i + 1) m' σ' H') /\ ∀ x H',(Itl K a).yld i H x H' -> g x σ H' fun σ2 H2 => tb { D with nx:=N,ct:=N,bk:=D.nx } σ2 H2):=by
  refine ⟨fun i m σ H => m = xs.length - i /\ i <= xs.length /\ Pv i σ H,⟨xs.length,by simp,Nat.zero_le _,h0⟩,?_⟩
  rintro i m σ H ⟨rfl,hi,p⟩
  have q:=hl i σ H hi p
  by_cases hlt:i < xs.length
  . refine .inr ⟨⟨xs,xs[i],q,by simp [hlt]⟩,Pv (i + 1),fun σ' H' p' => ⟨xs.length - (i + 1),by omega,rfl,hlt,p'⟩,fun x H' y => ?_⟩
    obtain ⟨e,y⟩:=y
    subst e
    exact hs i x σ _ (y xs q) p
  . have e:i = xs.length:=by omega
    subst e
    exact .inl ⟨⟨xs,q,Nat.le_refl _⟩,hd σ H p⟩
theorem for_tup {K:PySem.W.Frag} {a:Addr} {xs:List V} {g:TG} {tb:TS} {D:Ends} {σ:St} {H:Hp} (Pv:Nat -> St -> Hp -> Prop) (h0:Pv 0 σ H) (hl:∀ i σ H,i <= xs.length -> Pv i σ H -> SqT K H a xs)
    (hs:∀ i x σ H,xs[i]? = some x -> Pv i σ H -> g x σ H fun σ2 H2 => tb { D with nx:=Pv (i + 1),ct:=Pv (i + 1),bk:=D.nx } σ2 H2) (hd:∀ σ H,Pv xs.length σ H -> D.nx σ H) :
    ∃ W:Nat -> Nat -> St -> Hp -> Prop,(∃ m,W 0 m σ H) /\ ∀ i m σ H,W i m σ H ->
      ((Itt K a).stop i H /\ D.nx σ H) ∨ ((Itt K a).go i H /\ ∃ N:St -> Hp -> Prop,(∀ σ' H',N σ' H' -> ∃ m',m' < m /\ W (i + 1) m' σ' H') /\ ∀ x H',(Itt K a).yld i H x H' -> g x σ H' fun σ2 H2 => tb { D with nx:=N,ct:=N,bk:=D.nx } σ2 H2):=by
  refine ⟨fun i m σ H => m = xs.length - i /\ i <= xs.length /\ Pv i σ H,⟨xs.length,by simp,Nat.zero_le _,h0⟩,?_⟩
  rintro i m σ H ⟨rfl,hi,p⟩
  have q:=hl i σ H hi p
  by_cases hlt:i < xs.length
  . refine .inr ⟨⟨xs,xs[i],q,by simp [hlt]⟩,Pv (i + 1),fun σ' H' p' => ⟨xs.length - (i + 1),by omega,rfl,hlt,p'⟩,fun x H' y => ?_⟩
    obtain ⟨e,y⟩:=y
    subst e
    exact hs i x σ _ (y xs q) p
  . have e:i = xs.length:=by omega
    subst e
    exact .inl ⟨⟨xs,q,Nat.le_refl _⟩,hd σ H p⟩
theorem for_range {lo:Int} {n:Nat} {g:TG} {tb:TS} {D:Ends} {σ:St} {H:Hp} (Pv:Nat -> St -> Hp -> Prop) (h0:Pv 0 σ H)
    (hs:∀ i σ H,i < n -> Pv i σ H -> g (.int (lo + i)) σ H fun σ2 H2 => tb { D with nx:=Pv (i + 1),ct:=Pv (i + 1),bk:=D.nx } σ2 H2) (hd:∀ σ H,Pv n σ H -> D.nx σ H) :
    ∃ W:Nat -> Nat -> St -> Hp -> Prop,(∃ m,W 0 m σ H) /\ ∀ i m σ H,W i m σ H ->
      ((Itr lo n).stop i H /\ D.nx σ H) ∨ ((Itr lo n).go i H /\ ∃ N:St -> Hp -> Prop,(∀ σ' H',N σ' H' -> ∃ m',m' < m /\ W (i + 1) m' σ' H') /\ ∀ x H',(Itr lo n).yld i H x H' -> g x σ H' fun σ2 H2 => tb { D with nx:=N,ct:=N,bk:=D.nx } σ2 H2):=by
  refine ⟨fun i m σ H => m = n - i /\ i <= n /\ Pv i σ H,⟨n,by simp,Nat.zero_le _,h0⟩,?_⟩
  rintro i m σ H ⟨rfl,hi,p⟩
  by_cases hlt:i < n
  . refine .inr ⟨hlt,Pv (i + 1),fun σ' H' p' => ⟨n - (i + 1),by omega,rfl,hlt,p'⟩,fun x H' y => ?_⟩
    obtain ⟨e,y⟩:=y
    subst e y
    exact hs i σ _ hlt p
  . have e:i = n:=by omega
    subst e
    exact .inl ⟨Nat.le_refl _,hd σ H p⟩
theorem while_by {c:TT} {tb:TS} {D:Ends} {σ:St} {H:Hp} (Pv:St -> Hp -> Prop) (μ:St -> Hp -> Nat) (h0:Pv σ H)
    (hs:∀ σ H,Pv σ H -> c σ H fun b H1 => if b = true then tb { D with nx:=fun σ' H' => Pv σ' H' /\ μ σ' H' < μ σ H,ct:=fun σ' H' => Pv σ' H' /\ μ σ' H' < μ σ H,bk:=D.nx } σ H1 else D.nx σ H1)
    (mono:∀ σ H Q Q',(∀ b H1,Q b H1 -> Q' b H1) -> c σ H Q -> c σ H Q'):tWhile c tb D σ H:=by
  refine ⟨fun m σ H => m = μ σ H /\ Pv σ H,⟨_,rfl,h0⟩,?_⟩
  rintro m σ H ⟨rfl,p⟩
  refine mono σ H _ _ (fun b H1 q => ?_) (hs σ H p)
  cases b with
  | true => exact ⟨_,fun σ' H' ⟨p',l⟩ => ⟨_,l,rfl,p'⟩,q⟩
  | false => exact q
end L2
namespace L2
open PySem PySem.Spec PyProof.Rows
noncomputable abbrev R2:=V -> V -> Hp -> VK -> Prop
noncomputable def OpR (X:Cx) (f:Value -> Value -> Sem Value) (r:R2):Prop :=
  ∀ (pins:List (Addr×Obj)) (s:Shared) (σ:St) (H:Hp) (x y:V) (v u:Value) (Q:VK),Inv X pins σ H s -> RelV x v -> RelV y u -> r x y H Q ->
    wpAny (model X.prog X.w) X.A (f v u) (EP X pins σ Q) X.xe s
noncomputable def CallR (X:Cx) (f:Value) (r:List V -> Hp -> VK -> Prop):Prop :=
  ∀ (pins:List (Addr×Obj)) (s:Shared) (σ:St) (H:Hp) (xs:List V) (us:List Value) (Q:VK),Inv X pins σ H s -> Vals xs us -> r xs H Q ->
    wpAny (model X.prog X.w) X.A (call f us) (EP X pins σ Q) X.xe s
noncomputable def tOp (r:R2) (ta tb:TE):TE:=fun σ H Q => ta σ H fun x H1 => tb σ H1 fun y H2 => r x y H2 Q
noncomputable def tUn (r:V -> Hp -> VK -> Prop) (ta:TE):TE:=fun σ H Q => ta σ H fun x H1 => r x H1 Q
noncomputable def rI (C:Int -> Int -> Prop) (g:Int -> Int -> V):R2:=fun x y H Q => ∃ i j,x = .int i /\ y = .int j /\ C i j /\ Q (g i j) H
noncomputable def rI0 (g:Int -> Int -> V):R2:=fun x y H Q => ∃ i j,x = .int i /\ y = .int j /\ Q (g i j) H
noncomputable def rU (g:Int -> V):V -> Hp -> VK -> Prop:=fun x H Q => ∃ i,x = .int i /\ Q (g i) H
section
variable {X:Cx} {a b c:Expr} {ta tb tc:TE} {pos:Pos}
theorem binT (ha:PE X a ta) (hb:PE X b tb) {pins:List (Addr×Obj)} {s:Shared} {σ:St} {H:Hp} {R:V -> V -> Hp -> Prop} (I:Inv X pins σ H s)
    (h:ta σ H fun x H1 => tb σ H1 fun y H2 => R x y H2) {Q:Value -> Shared -> Prop} {f:Value -> Value -> Sem Value}
    (hf:∀ v u s2 x y H2,Inv X pins σ H2 s2 -> RelV x v -> RelV y u -> R x y H2 -> wpAny (model X.prog X.w) X.A (f v u) Q X.xe s2) :
    wpAny (model X.prog X.w) X.A (eval a X.env) (fun v s₁ => wpAny (model X.prog X.w) X.A (eval b X.env) (fun u s₂ => wpAny (model X.prog X.w) X.A (f v u) Q X.xe s₂) X.xe s₁) X.xe s:=by
  refine thn (ha pins s σ H _ I h) fun v s1 ⟨x,H1,I1,r1,q1⟩ => ?_
  refine thn (hb pins s1 σ H1 _ I1 q1) fun u s2 ⟨y,H2,I2,r2,q2⟩ => ?_
  exact hf v u s2 x y H2 I2 r1 r2 q2
theorem pe_op {op:Operator} {r:R2} (ho:OpR X (binaryOp op) r) (ha:PE X a ta) (hb:PE X b tb):PE X (.BinOp a op b pos) (tOp r ta tb):=by
  intro pins s σ H Q I h
  exact wpAny_BinOp (binT ha hb I h fun v u s2 x y H2 I2 rx ry q => ho pins s2 σ H2 x y v u Q I2 rx ry q)
theorem opI {f:Value -> Value -> Sem Value} {C:Int -> Int -> Prop} {g:Int -> Int -> Int}
    (rule:∀ (i j:Int) (t u:Tok) (s:Shared) (Q:Value -> Shared -> Prop) (E:Value -> Shared -> Prop),C i j -> Q (.int (g i j) s.toks) { s with toks:=s.toks + 1 } -> wpAny (model X.prog X.w) X.A (f (.int i t) (.int j u)) Q E s) :
    OpR X f (rI C fun i j => .int (g i j)):=by
  intro pins s σ H x y v u Q I rx ry h
  obtain ⟨i,j,rfl,rfl,hc,q⟩:=h
  obtain ⟨t,rfl⟩:=rx
  obtain ⟨t',rfl⟩:=ry
  exact rule i j t t' s _ _ hc ⟨.int (g i j),H,I.tok _,⟨_,rfl⟩,q⟩
theorem opI0 {f:Value -> Value -> Sem Value} {g:Int -> Int -> Int}
    (rule:∀ (i j:Int) (t u:Tok) (s:Shared) (Q:Value -> Shared -> Prop) (E:Value -> Shared -> Prop),Q (.int (g i j) s.toks) { s with toks:=s.toks + 1 } -> wpAny (model X.prog X.w) X.A (f (.int i t) (.int j u)) Q E s) :
    OpR X f (rI0 fun i j => .int (g i j)):=by
  intro pins s σ H x y v u Q I rx ry h
  obtain ⟨i,j,rfl,rfl,q⟩:=h
  obtain ⟨t,rfl⟩:=rx
  obtain ⟨t',rfl⟩:=ry
  exact rule i j t t' s _ _ ⟨.int (g i j),H,I.tok _,⟨_,rfl⟩,q⟩
theorem opB0 {f:Value -> Value -> Sem Value} {g:Int -> Int -> Bool}
    (rule:∀ (i j:Int) (t u:Tok) (s:Shared) (Q:Value -> Shared -> Prop) (E:Value -> Shared -> Prop),Q (.bool (g i j)) s -> wpAny (model X.prog X.w) X.A (f (.int i t) (.int j u)) Q E s) :
    OpR X f (rI0 fun i j => .bl (g i j)):=by
  intro pins s σ H x y v u Q I rx ry h
  obtain ⟨i,j,rfl,rfl,q⟩:=h
  obtain ⟨t,rfl⟩:=rx
  obtain ⟨t',rfl⟩:=ry
  exact rule i j t t' s _ _ ⟨.bl (g i j),H,I,rfl,q⟩
noncomputable def CPow (i j:Int):Prop:=0 <= j /\ j <= 1000000 /\ i.natAbs < 2 ^ 64
noncomputable def CMul (i j:Int):Prop:=(-(2 ^ 64) < i /\ i < 2 ^ 64) ∨ (-(2 ^ 64) < j /\ j < 2 ^ 64)
theorem CMul.ok {i j:Int} (h:CMul i j):IntMulOk i j:=by
  rcases h with ⟨h1,h2⟩ | ⟨h1,h2⟩
  . exact .of_left (intBits_le_64 h1 h2)
  . exact .of_right (intBits_le_64 h1 h2)
theorem op_add:OpR X (binaryOp .Add) (rI0 fun i j => .int (i + j)):=opI0 fun _ _ _ _ _ _ _ q => add_int q
theorem op_sub:OpR X (binaryOp .Sub) (rI0 fun i j => .int (i - j)):=opI0 fun _ _ _ _ _ _ _ q => sub_int q
theorem op_mod:OpR X (binaryOp .Mod) (rI (fun _ j => 0 < j) fun i j => .int (i % j)):=opI fun i j _ _ _ _ _ hc q => by
  have h1:(0:Int) < j:=hc
  exact mod_int' (by omega) (by rw [Int.fmod_eq_emod_of_nonneg i (by omega)]; exact q)
theorem op_modN:OpR X (binaryOp .Mod) (rI (fun _ j => j ≠ 0) fun i j => .int (i.fmod j)):=opI fun _ _ _ _ _ _ _ hc q => mod_int' hc q
theorem op_pow:OpR X (binaryOp .Pow) (rI CPow fun i j => .int (i ^ j.toNat)):=opI fun _ _ _ _ _ _ _ hc q => pow_int_small hc.1 hc.2.1 hc.2.2 q
end
noncomputable def scal:V -> V -> Bool
  | .non,.non => true | .non,.int _ => true | .int _,.non => true | .non,.bl _ => true | .bl _,.non => true | .non,.str _ => true | .str _,.non => true
  | .int _,.int _ => true | .bl _,.bl _ => true | .str _,.str _ => true | .byt _,.byt _ => true
  | .int _,.str _ => true | .str _,.int _ => true | .bl _,.str _ => true | .str _,.bl _ => true
  | _,_ => false
noncomputable def rEq:R2:=fun x y H Q => scal x y = true /\ Q (.bl (decide (x = y))) H
noncomputable def rNe:R2:=fun x y H Q => scal x y = true /\ Q (.bl (!decide (x = y))) H
theorem dec_int {i j:Int}:decide (V.int i = V.int j) = (i == j):=by
  rw [Bool.eq_iff_iff]
  simp
theorem dec_bl {i j:Bool}:decide (V.bl i = V.bl j) = (i == j):=by
  rw [Bool.eq_iff_iff]
  simp
theorem dec_str {i j:Str}:decide (V.str i = V.str j) = (i == j):=by
  rw [Bool.eq_iff_iff]
  simp
theorem dec_byt {i j:Array UInt8}:decide (V.byt i = V.byt j) = (i.toList == j.toList):=by
  rw [Bool.eq_iff_iff]
  cases i
  cases j
  simp
section
variable {X:Cx} {a b c:Expr} {ta tb tc:TE} {pos:Pos}
theorem fin_bl {pins:List (Addr×Obj)} {σ:St} {H:Hp} {s:Shared} {Q:VK} {k k':Bool} (I:Inv X pins σ H s) (q:Q (.bl k) H) (e:k = k'):EP X pins σ Q (.bool k') s:=by
  subst e
  exact ⟨.bl k,H,I,rfl,q⟩
theorem op_eq:OpR X (compareOp .Eq) rEq:=by
  intro pins s σ H x y v u Q I rx ry h
  obtain ⟨hs,q⟩:=h
  cases x with
  | non =>
    cases rx
    cases y with
    | non => cases ry; exact PySem.EqNone.eq_none_none (fin_bl I q (by simp))
    | bl j => cases ry; exact PySem.EqNone.eq_none_bool (fin_bl I q (by simp))
    | int j => obtain ⟨t',rfl⟩:=ry; exact PySem.EqNone.eq_none_int (fin_bl I q (by simp))
    | str j => obtain ⟨t',rfl⟩:=ry; exact PySem.EqNone.eq_none_str (fin_bl I q (by simp))
    | _ => exact absurd (show false = true from hs) Bool.false_ne_true
  | bl i =>
    cases rx
    cases y with
    | non => cases ry; exact PySem.EqNone.eq_bool_none (fin_bl I q (by simp))
    | bl j => cases ry; exact eq_bool (fin_bl I q dec_bl)
    | str j => obtain ⟨t',rfl⟩:=ry; exact PySem.EqMixed.eq_bool_str (fin_bl I q (by simp))
    | _ => exact absurd (show false = true from hs) Bool.false_ne_true
  | int i =>
    obtain ⟨t,rfl⟩:=rx
    cases y with
    | non => cases ry; exact PySem.EqNone.eq_int_none (fin_bl I q (by simp))
    | int j => obtain ⟨t',rfl⟩:=ry; exact eq_int (fin_bl I q dec_int)
    | str j => obtain ⟨t',rfl⟩:=ry; exact PySem.EqMixed.eq_int_str (fin_bl I q (by simp))
    | _ => exact absurd (show false = true from hs) Bool.false_ne_true
  | str i =>
    obtain ⟨t,rfl⟩:=rx
    cases y with
    | non => cases ry; exact PySem.EqNone.eq_str_none (fin_bl I q (by simp))
    | bl j => cases ry; exact PySem.EqMixed.eq_str_bool (fin_bl I q (by simp))
    | int j => obtain ⟨t',rfl⟩:=ry; exact PySem.EqMixed.eq_str_int (fin_bl I q (by simp))
    | str j => obtain ⟨t',rfl⟩:=ry; exact eq_str (fin_bl I q dec_str)
    | _ => exact absurd (show false = true from hs) Bool.false_ne_true
  | byt i =>
    obtain ⟨t,rfl⟩:=rx
    cases y with
    | byt j => obtain ⟨t',rfl⟩:=ry; exact PySem.W.eq_bytes (fin_bl I q dec_byt)
    | _ => exact absurd (show false = true from hs) Bool.false_ne_true
  | _ => cases y <;> exact absurd (show false = true from hs) Bool.false_ne_true
theorem op_ne:OpR X (compareOp .NotEq) rNe:=by
  intro pins s σ H x y v u Q I rx ry h
  obtain ⟨hs,q⟩:=h
  cases x with
  | non =>
    cases rx
    cases y with
    | non => cases ry; exact PySem.EqNone.ne_none_none (fin_bl I q (by simp))
    | bl j => cases ry; exact PySem.EqNone.ne_none_bool (fin_bl I q (by simp))
    | int j => obtain ⟨t',rfl⟩:=ry; exact PySem.EqNone.ne_none_int (fin_bl I q (by simp))
    | str j => obtain ⟨t',rfl⟩:=ry; exact PySem.EqNone.ne_none_str (fin_bl I q (by simp))
    | _ => exact absurd (show false = true from hs) Bool.false_ne_true
  | bl i =>
    cases rx
    cases y with
    | non => cases ry; exact PySem.EqNone.ne_bool_none (fin_bl I q (by simp))
    | bl j => cases ry; exact ne_bool (fin_bl I q (congrArg not dec_bl))
    | str j => obtain ⟨t',rfl⟩:=ry; exact PySem.EqMixed.ne_bool_str (fin_bl I q (by simp))
    | _ => exact absurd (show false = true from hs) Bool.false_ne_true
  | int i =>
    obtain ⟨t,rfl⟩:=rx
    cases y with
    | non => cases ry; exact PySem.EqNone.ne_int_none (fin_bl I q (by simp))
    | int j => obtain ⟨t',rfl⟩:=ry; exact ne_int (fin_bl I q (congrArg not dec_int))
    | str j => obtain ⟨t',rfl⟩:=ry; exact PySem.EqMixed.ne_int_str (fin_bl I q (by simp))
    | _ => exact absurd (show false = true from hs) Bool.false_ne_true
  | str i =>
    obtain ⟨t,rfl⟩:=rx
    cases y with
    | non => cases ry; exact PySem.EqNone.ne_str_none (fin_bl I q (by simp))
    | bl j => cases ry; exact PySem.EqMixed.ne_str_bool (fin_bl I q (by simp))
    | int j => obtain ⟨t',rfl⟩:=ry; exact PySem.EqMixed.ne_str_int (fin_bl I q (by simp))
    | str j => obtain ⟨t',rfl⟩:=ry; exact ne_str (fin_bl I q (congrArg not dec_str))
    | _ => exact absurd (show false = true from hs) Bool.false_ne_true
  | byt i =>
    obtain ⟨t,rfl⟩:=rx
    cases y with
    | byt j => obtain ⟨t',rfl⟩:=ry; exact PySem.W.ne_bytes (fin_bl I q (congrArg not dec_byt))
    | _ => exact absurd (show false = true from hs) Bool.false_ne_true
  | _ => cases y <;> exact absurd (show false = true from hs) Bool.false_ne_true
theorem op_lt:OpR X (compareOp .Lt) (rI0 fun i j => .bl (decide (i < j))):=opB0 fun _ _ _ _ _ _ _ q => lt_int q
theorem op_le:OpR X (compareOp .LtE) (rI0 fun i j => .bl (decide (i <= j))):=opB0 fun _ _ _ _ _ _ _ q => le_int q
theorem op_gt:OpR X (compareOp .Gt) (rI0 fun i j => .bl (decide (j < i))):=opB0 fun _ _ _ _ _ _ _ q => gt_int q
theorem op_ge:OpR X (compareOp .GtE) (rI0 fun i j => .bl (decide (j <= i))):=opB0 fun _ _ _ _ _ _ _ q => ge_int q
theorem op_isN:OpR X (compareOp .Is) (fun x y H Q => y = .non /\ Q (.bl (decide (x = .non))) H):=by
  intro pins s σ H x y v u Q I rx ry h
  obtain ⟨rfl,q⟩:=h
  cases ry
  refine is_none_gen (fin_bl I q ?_)
  cases x <;> first
    | (cases rx; rfl)
    | (obtain ⟨t,rfl⟩:=rx; rfl)
theorem op_notN:OpR X (compareOp .IsNot) (fun x y H Q => y = .non /\ Q (.bl (!decide (x = .non))) H):=by
  intro pins s σ H x y v u Q I rx ry h
  obtain ⟨rfl,q⟩:=h
  cases ry
  refine isnot_none_gen (fin_bl I q ?_)
  cases x <;> first
    | (cases rx; rfl)
    | (obtain ⟨t,rfl⟩:=rx; rfl)
theorem OpR.or {f:Value -> Value -> Sem Value} {r r':R2} (h:OpR X f r) (h':OpR X f r'):OpR X f (fun x y H Q => r x y H Q ∨ r' x y H Q):=by
  intro pins s σ H x y v u Q I rx ry q
  rcases q with q | q
  . exact h pins s σ H x y v u Q I rx ry q
  . exact h' pins s σ H x y v u Q I rx ry q
theorem nomark (b:Expr) {op:CmpOp} (h:op ≠ .In:=by decide) (h2:op ≠ .NotIn:=by decide):behindInMarks op b = false:=by
  have e1:(op == CmpOp.In) = false:=by cases op <;> first | rfl | exact absurd rfl h
  have e2:(op == CmpOp.NotIn) = false:=by cases op <;> first | rfl | exact absurd rfl h2
  cases b <;> simp [behindInMarks,e1,e2]
theorem pe_cmpR {op:CmpOp} {r:R2} (ho:OpR X (compareOp op) r) (ha:PE X a ta) (hb:PE X b tb) (hm:behindInMarks op b = false):PE X (.Compare a [op] [b] pos) (tOp r ta tb):=by
  intro pins s σ H Q I h
  exact wpAny_Compare1 (binT ha hb I h fun v u s2 x y H2 I2 rx ry q => ho pins s2 σ H2 x y v u Q I2 rx ry q) hm
noncomputable def tTest (t:TE):TT:=fun σ H Q => t σ H fun x H' => ∃ k,x = .bl k /\ Q k H'
theorem pt_cmpR {op:CmpOp} {r:R2} (ho:OpR X (compareOp op) r) (ha:PE X a ta) (hb:PE X b tb) (hm:behindInMarks op b = false):PT X (.Compare a [op] [b] pos) (tTest (tOp r ta tb)):=by
  intro pins s σ H Q I h
  refine wpAny_isTrue_Compare1 (thn (ha pins s σ H _ I h) fun v s1 ⟨x,H1,I1,r1,q1⟩ => thn (hb pins s1 σ H1 _ I1 q1) fun u s2 ⟨y,H2,I2,r2,q2⟩ =>
    thn (ho pins s2 σ H2 x y v u _ I2 r1 r2 q2) fun c s3 ⟨z,H3,I3,r3,k,e,q3⟩ => ?_) hm
  subst e
  cases r3
  exact wpAny_truthy_bool ⟨H3,I3,q3⟩
noncomputable def tChain (r r':R2) (ta tb tc:TE):TE:=fun σ H Q => ta σ H fun x H1 => tb σ H1 fun y H2 => r x y H2 fun z H3 => ∃ k,z = .bl k /\
  (if k = true then tc σ H3 fun w' H4 => r' y w' H4 Q else Q (.bl false) H3)
theorem pe_chain {op op':CmpOp} {r r':R2} (ho:OpR X (compareOp op) r) (ho':OpR X (compareOp op') r') (ha:PE X a ta) (hb:PE X b tb) (hc:PE X c tc)
    (hm:lastMarks [op,op'] [b,c] = false:=by with_unfolding_all rfl):PE X (.Compare a [op,op'] [b,c] pos) (tChain r r' ta tb tc):=by
  intro pins s σ H Q I h
  refine Compare_chain (thn (ha pins s σ H _ I h) fun v s1 ⟨x,H1,I1,r1,q1⟩ => chain_link (thn (hb pins s1 σ H1 _ I1 q1) fun u s2 ⟨y,H2,I2,r2,q2⟩ =>
    thn (ho pins s2 σ H2 x y v u _ I2 r1 r2 q2) fun d s3 ⟨z,H3,I3,r3,k,e,q3⟩ => ?_)) hm
  subst e
  cases r3
  refine wpAny_truthy_bool ?_
  cases k with
  | false => exact ite_ff ⟨.bl false,H3,I3,rfl,q3⟩
  | true => exact ite_tt (chain_last (thn (hc pins s3 σ H3 _ I3 q3) fun w' s4 ⟨z',H4,I4,r4,q4⟩ => ho' pins s4 σ H4 y z' u w' Q I4 r2 r4 q4))
noncomputable def TruV (K:PySem.W.Frag) (x:V) (H:Hp) (k:Bool):Prop :=
  match x with
  | .non => k = false
  | .bl b => k = b
  | .int i => k = (i != 0)
  | .str y => y.length <= sizeLine /\ k = ((y.length:Int) != 0)
  | .byt y => y.size <= sizeLine /\ k = ((y.size:Int) != 0)
  | .ref p => (∃ xs,SqL K H p xs /\ k = !xs.isEmpty) ∨ (∃ xs,SqT K H p xs /\ k = !xs.isEmpty) ∨ ∃ kvs,H p = some (.dK kvs) /\ k = !kvs.isEmpty
  | _ => False
theorem line63:(sizeLine:Nat) < 2 ^ 63:=by rw [sizeLine_eq]; decide
theorem op_add_str:OpR X (binaryOp .Add) (fun x y H Q => ∃ i j,x = .str i /\ y = .str j /\ i.length + j.length <= sizeLine /\ Q (.str (i ++ j)) H):=by
  intro pins s σ H x y v u Q I rx ry h
  obtain ⟨i,j,rfl,rfl,hz,q⟩:=h
  obtain ⟨t,rfl⟩:=rx
  obtain ⟨t',rfl⟩:=ry
  exact add_str (fun t' tk => ⟨.str (i ++ j),H,I.tok _,⟨_,rfl⟩,q⟩) hz
theorem vals1 {x:V} {us:List Value} (r:Vals [x] us):∃ u,us = [u] /\ RelV x u:=by
  cases r with
  | cons r1 r2 => cases r2; exact ⟨_,rfl,r1⟩
theorem vals2 {x y:V} {us:List Value} (r:Vals [x,y] us):∃ u w',us = [u,w'] /\ RelV x u /\ RelV y w':=by
  cases r with
  | cons r1 r2 =>
    cases r2 with
    | cons r3 r4 => cases r4; exact ⟨_,_,rfl,r1,r3⟩
theorem call_abs:CallR X (.builtin "abs") (fun xs H Q => ∃ i,xs = [.int i] /\ Q (.int (if i < 0 then -i else i)) H):=by
  intro pins s σ H xs us Q I r h
  obtain ⟨i,rfl,q⟩:=h
  obtain ⟨u,rfl,t,rfl⟩:=vals1 r
  exact call_abs_int fun u tk => ⟨.int (if i < 0 then -i else i),H,I.tok _,⟨_,rfl⟩,q⟩
theorem call_max2 (hc:X.calm = true):CallR X (.builtin "max") (fun xs H Q => ∃ i j,xs = [.int i,.int j] /\ Q (.int (if j > i then j else i)) H):=by
  intro pins s σ H xs us Q I r h
  obtain ⟨i,j,rfl,q⟩:=h
  obtain ⟨u,w',rfl,⟨t,rfl⟩,⟨t',rfl⟩⟩:=vals2 r
  refine max_two_ints (I.ok.hd hc) fun h' tk k => ⟨_,H,I.kept k,?_,q⟩
  by_cases hj:j > i
  . rw [if_pos hj,if_pos hj]; exact ⟨_,rfl⟩
  . rw [if_neg hj,if_neg hj]; exact ⟨_,rfl⟩
theorem call_min2 (hc:X.calm = true):CallR X (.builtin "min") (fun xs H Q => ∃ i j,xs = [.int i,.int j] /\ Q (.int (if j < i then j else i)) H):=by
  intro pins s σ H xs us Q I r h
  obtain ⟨i,j,rfl,q⟩:=h
  obtain ⟨u,w',rfl,⟨t,rfl⟩,⟨t',rfl⟩⟩:=vals2 r
  refine min_two_ints (I.ok.hd hc) fun h' tk k => ⟨_,H,I.kept k,?_,q⟩
  by_cases hj:j < i
  . rw [if_pos hj,if_pos hj]; exact ⟨_,rfl⟩
  . rw [if_neg hj,if_neg hj]; exact ⟨_,rfl⟩
noncomputable def LenV (K:PySem.W.Frag) (x:V) (H:Hp) (n:Nat):Prop :=
  match x with
  | .str y => y.length <= sizeLine /\ n = y.length
  | .byt y => y.size <= sizeLine /\ n = y.size
  | .ref p => (∃ xs,SqL K H p xs /\ n = xs.length) ∨ ∃ xs,SqT K H p xs /\ n = xs.length
  | _ => False
theorem call_len:CallR X (.builtin "len") (fun xs H Q => ∃ x n,xs = [x] /\ LenV X.K x H n /\ Q (.int n) H):=by
  intro pins s σ H xs us Q I r h
  obtain ⟨x,n,rfl,e,q⟩:=h
  obtain ⟨u,rfl,rx⟩:=vals1 r
  have hl:=line63
  have hs:sizeLine = 16777216:=sizeLine_eq
  cases x with
  | str y =>
    obtain ⟨t,rfl⟩:=rx
    obtain ⟨hy,e'⟩:y.length <= sizeLine /\ n = y.length:=e
    subst e'
    exact len_str (by omega) ⟨.int _,H,I.tok _,⟨_,rfl⟩,q⟩
  | byt y =>
    obtain ⟨t,rfl⟩:=rx
    obtain ⟨hy,e'⟩:y.size <= sizeLine /\ n = y.size:=e
    subst e'
    exact PySem.W.len_bytes (by omega) ⟨.int _,H,I.tok _,⟨_,rfl⟩,q⟩
  | ref p =>
    cases rx
    have e':(∃ xs,SqL X.K H p xs /\ n = xs.length) ∨ ∃ xs,SqT X.K H p xs /\ n = xs.length:=e
    rcases e' with ⟨xs,hx,e'⟩ | ⟨xs,hx,e'⟩
    . subst e'
      obtain ⟨its,r',pl,hz⟩:=I.list hx
      have hlen:=r'.length
      exact Calls.call_len_list pl.isList (by simp only [List.size_toArray]; omega) ⟨.int xs.length,H,I.tok _,⟨_,by simp only [List.size_toArray]; rw [hlen]⟩,q⟩
    . subst e'
      obtain ⟨its,r',pl,hz⟩:=I.tuple hx
      have hlen:=r'.length
      exact len_tuple pl (by simp only [List.size_toArray]; omega) ⟨.int xs.length,H,I.tok _,⟨_,by simp only [List.size_toArray]; rw [hlen]⟩,q⟩
  | _ => exact (show False from e).elim
end
end L2
namespace L2
open PySem PySem.Spec PyProof.Rows
structure ObjM (h:Heap) (x dx C:Addr) (mA:Str -> Option Value):Prop where
  obj:h.get? x = some (PySem.W.instObj C dx)
  ns:h.Ns1 dx mA
  ne:dx ≠ x
theorem lookIn_ns {h:Heap} {dx:Addr} {mA:Str -> Option Value} (n:h.Ns1 dx mA):∃ od,h.get? dx = some od /\ ∀ name,PySem.W.lookIn name od = some (mA name):=by
  obtain ⟨o,es,ep,ho,hd,hk,_,hm⟩:=n
  refine ⟨o,ho,fun name => ?_⟩
  have e:=hm name
  unfold nsFind findBy at e
  rw [← Array.find?_toList] at e
  unfold PySem.W.lookIn
  rw [hd]
  dsimp only
  split
  . rename_i y q
    rw [q] at e
    exact congrArg some e
  . rename_i q
    rw [q] at e
    have a:es.toList.any (·.refKey) = false:=by
      rw [List.any_eq_false]
      intro y hy
      obtain ⟨z,t,hkey⟩:=hk y (Array.mem_toList_iff.mp hy)
      simp [DictEntry.refKey,hkey]
    have a':¬ es.toList.any (·.refKey) = true:=by rw [a]; exact Bool.false_ne_true
    rw [if_neg a']
    exact congrArg some e
theorem ObjM.look {h:Heap} {x dx C:Addr} {mA:Str -> Option Value} (I:ObjM h x dx C mA):∃ od,PySem.W.InstAt h x (PySem.W.instObj C dx) C (some od) /\ ∀ name,PySem.W.lookIn name od = some (mA name) :=
  let ⟨od,ho,hl⟩:=lookIn_ns I.ns
  ⟨od,⟨I.obj,rfl,rfl,ho⟩,hl⟩
section
variable {prog:Program} {w:World} {A:Around} {E:Value -> Shared -> Prop} {s:Shared} {K:PySem.W.Frag} {x dx C f:Addr} {mA:Str -> Option Value} {name:Str} {v:Value}
end
theorem RelO.some_of {v:V} {o:Option Value} (r:RelO (some v) o):∃ u,o = some u /\ RelV v u:=by
  cases o with
  | none => exact (show False from r).elim
  | some u => exact ⟨u,rfl,r⟩
section
variable {P:Program} {w:World} {H H':Hp} {h h':Heap} {a C dx:Addr} {fs fs':List (Str×V)}
theorem ins_get (hok:HOk P w H h) (e:H a = some (.ins C dx fs)):∃ mA,ObjM h a dx C mA /\ (∀ f,RelO (fs.lookup f) (mA f)) /\ PySem.Within mA (fs.map (·.1)) /\ fs.length <= 1000 /\ H dx = some (.own a):=by
  obtain ⟨d,z,ne,ob,mA,n,r,q⟩:=(show ObjOk P w H h a (.ins C dx fs) from hok a _ e)
  exact ⟨mA,⟨ob,n,ne⟩,r,q,z,d⟩
end
structure Cls (K:PySem.W.Frag) (C:Addr):Prop where
  pg:PySem.W.plainGet K C Str.empty = true
  hd:PySem.W.hasDictIn K C = true
  po:PySem.W.plainOver K C = true
  sa:PySem.W.findIn K (.ref C) "__setattr__" = some (some (.builtin "object.__setattr__"))
theorem Cls.get {K:PySem.W.Frag} {C:Addr} (c:Cls K C) (f:Str):PySem.W.plainGet K C f = true:=c.pg
section
variable {X:Cx} {pins:List (Addr×Obj)} {σ:St} {H:Hp} {s:Shared} {a C dx:Addr} {fs:List (Str×V)} {f:Str} {v:V} {A:Around} {E:Value -> Shared -> Prop}
theorem Inv.made (I:Inv X pins σ H s):Inv X pins σ (upd (upd H s.heap.objs.size (.own (s.heap.objs.size + 1))) (s.heap.objs.size + 1) (.ins C s.heap.objs.size []))
    { s with heap:=(s.heap.push PySem.W.emptyDict).push (PySem.W.instObj C s.heap.objs.size) }:=by
  have e1:(s.heap.push PySem.W.emptyDict).get? s.heap.objs.size = some PySem.W.emptyDict:=Heap.get?_push_size s.heap rfl
  have e2:((s.heap.push PySem.W.emptyDict).push (PySem.W.instObj C s.heap.objs.size)).get? (s.heap.objs.size + 1) = some (PySem.W.instObj C s.heap.objs.size):=by
    have:=Heap.get?_push_size (s.heap.push PySem.W.emptyDict) (o:=PySem.W.instObj C s.heap.objs.size) rfl
    rwa [Heap.size_push] at this
  have e3:(s.heap.push PySem.W.emptyDict).Ns s.heap.objs.size (fun _ => none):=⟨PySem.W.emptyDict,#[],_,e1,rfl,(fun e he => absurd he (by simp)),fun _ => rfl⟩
  have I1:=I.laid (a:=s.heap.objs.size) (o:=.own (s.heap.objs.size + 1)) (h':=s.heap.push PySem.W.emptyDict) (t':=s.toks) (fun b u q => Heap.get?_push_of_some _ q) (Nat.le_refl _) ⟨_,e1⟩
  refine I1.laid (a:=s.heap.objs.size + 1) (o:=.ins C s.heap.objs.size []) (t':=s.toks) (fun b u q => Heap.get?_push_of_some _ q) (Nat.le_of_eq (Heap.size_push _ _)) ?_
  have ne:s.heap.objs.size ≠ s.heap.objs.size + 1:=Nat.ne_of_lt (Nat.lt_succ_self _)
  refine ⟨by rw [upd_ne ne,upd_same],Nat.zero_le _,ne,e2,fun _ => none,(Heap.Ns1.of_empty e3).at fun o q => Heap.get?_push_of_some _ q,fun _ => True.intro,fun y hy => absurd rfl hy⟩
end
section
variable {X:Cx} {o e value:Expr} {f:Str} {pos pos' tpos:Pos} {ta tv:TE}
end
section
variable {X:Cx} {pins:List (Addr×Obj)} {σ:St} {H:Hp} {s:Shared} {A:Around} {E:Value -> Shared -> Prop} {Q:Value -> Shared -> Prop} {c:Value} {b:Bool}
inductive TyOf (K:PySem.W.Frag) (H:Hp):V -> Value -> Prop where
  | non:TyOf K H .non (.type "NoneType")
  | bl (x:Bool):TyOf K H (.bl x) (.type "bool")
  | int (i:Int):TyOf K H (.int i) (.type "int")
  | str (x:Str):TyOf K H (.str x) (.type "str")
  | flt (x:UInt64):TyOf K H (.flt x) (.type "float")
  | lst {a:Addr} {xs:List V} (e:H a = some (.lst xs)):TyOf K H (.ref a) (.type "list")
  | frz {a:Addr} {o:Obj} {xs:List V} (e:H a = some (.frz o (.lst xs))):TyOf K H (.ref a) (.type "list")
  | tup {a:Addr} {xs:List V} (e:H a = some (.tup xs)):TyOf K H (.ref a) (.type "tuple")
  | dK {a:Addr} {kvs:List (Key×V)} (e:H a = some (.dK kvs)):TyOf K H (.ref a) (.type "dict")
  | dT {a:Addr} {kvs:List (List Key×V)} (e:H a = some (.dT kvs)):TyOf K H (.ref a) (.type "dict")
  | ins {a C dx:Addr} {fs:List (Str×V)} (e:H a = some (.ins C dx fs)) (cl:Cls K C) (ha:PySem.W.findIn K (.ref C) "__class__" = some (some (.builtin "object.__class__")))
      (hn:PySem.W.specialIn K (.builtin "object.__class__") "__get__" = some (some (.builtin "getset_descriptor.__get__"))) (htk:PySem.W.takesIn K (.builtin "object.__class__") = some true)
      (hm:PySem.W.mroIn K C (.type "object") = some true):TyOf K H (.ref a) (.ref C)
theorem isinst_ok {x:V} {u t:Value} (I:Inv X pins σ H s) (rx:RelV x u) (ty:TyOf X.K H x t) (e:PySem.W.kitOne X.K t c = some b) (h:∀ tk,Q (.bool b) { s with toks:=tk }) :
    wpAny (model X.prog X.w) A (call (.builtin "isinstance") [u,c]) Q E s:=by
  cases ty with
  | non => cases (show u = Value.none from rx); exact PySem.W.kia_one PySem.W.kitx_none I.kIn True.intro e (fun z => nomatch z) h
  | bl y => cases (show u = Value.bool y from rx); exact PySem.W.kia_one PySem.W.kitx_bool I.kIn True.intro e (fun z => nomatch z) h
  | int i => obtain ⟨t,q⟩:=(show ∃ t,u = Value.int i t from rx); cases q; exact PySem.W.kia_one PySem.W.kitx_int I.kIn True.intro e (fun z => nomatch z) h
  | str y => obtain ⟨t,q⟩:=(show ∃ t,u = Value.str y t from rx); cases q; exact PySem.W.kia_one PySem.W.kitx_str I.kIn True.intro e (fun z => nomatch z) h
  | flt y => obtain ⟨t,q⟩:=(show ∃ t,u = Value.float y t from rx); cases q; exact PySem.W.kia_one PySem.W.kitx_float I.kIn True.intro e (fun z => nomatch z) h
  | @lst a xs ea =>
    cases (show u = Value.ref a from rx)
    obtain ⟨_,_,n,_,h1⟩:=(show ObjOk X.prog X.w H s.heap a (.lst xs) from I.hok a _ ea)
    exact PySem.W.kia_one PySem.W.kitx_list I.kIn ⟨_,h1,rfl⟩ e (fun z => nomatch z) h
  | @frz a ob xs ea =>
    cases (show u = Value.ref a from rx)
    obtain ⟨_,_,_,n,_,h1⟩:=(show ObjOk X.prog X.w H s.heap a (.frz ob (.lst xs)) from I.hok a _ ea)
    exact PySem.W.kia_one PySem.W.kitx_list I.kIn ⟨_,h1,rfl⟩ e (fun z => nomatch z) h
  | @tup a xs ea =>
    cases (show u = Value.ref a from rx)
    obtain ⟨_,_,_,p⟩:=(show ObjOk X.prog X.w H s.heap a (.tup xs) from I.hok a _ ea)
    obtain ⟨o,h1,h2,_⟩:=p
    exact PySem.W.kia_one PySem.W.kitx_tuple I.kIn ⟨o,h1,h2⟩ e (fun z => nomatch z) h
  | @dK a kvs ea =>
    cases (show u = Value.ref a from rx)
    obtain ⟨_,_,vs,_,p⟩:=(show ObjOk X.prog X.w H s.heap a (.dK kvs) from I.hok a _ ea)
    obtain ⟨o,es,ep,h1,h2,_⟩:=p
    exact PySem.W.kia_one PySem.W.kitx_dict I.kIn ⟨o,h1,h2.1⟩ e (fun z => nomatch z) h
  | @dT a kvs ea =>
    cases (show u = Value.ref a from rx)
    obtain ⟨_,_,xs,_,o,es,ep,h1,h2,_⟩:=(show ObjOk X.prog X.w H s.heap a (.dT kvs) from I.hok a _ ea)
    exact PySem.W.kia_one PySem.W.kitx_dict I.kIn ⟨o,h1,h2.1⟩ e (fun z => nomatch z) h
  | @ins a C dx fs ea cl ha hn htk hm =>
    cases (show u = Value.ref a from rx)
    obtain ⟨mA,O,_⟩:=ins_get I.hok ea
    obtain ⟨od,J,_⟩:=O.look
    exact PySem.W.kia_one (PySem.W.kitx_own (cl.get _) cl.hd ha hn htk hm) I.kIn J e (fun z => nomatch z) h
end
end L2
namespace L2
open PySem PySem.Spec PyProof.Rows
structure Room (k:Nat) (A:Around):Prop where
  hd:A.handled = none
  dp:A.depth + 3 * k + 5 < recursionLimit
  un:A.units + 16 * k + 200 < cLine
theorem Room.mono {j k:Nat} {A:Around} (r:Room k A) (h:j <= k):Room j A:=⟨r.hd,by have:=r.dp; omega,by have:=r.un; omega⟩
theorem Room.deeper {k:Nat} {A:Around} (r:Room (k + 1) A) (env:Env):Room k (A.deeper env) :=
  ⟨r.hd,by have:=r.dp; show A.depth + 1 + 3 * k + 5 < _; omega,by have:=r.un; show A.units + 3 + 16 * k + 200 < _; omega⟩
theorem Room.in1 {k:Nat} {A:Around} (r:Room (k + 1) A):Room k A.in1 :=
  ⟨r.hd,by have:=r.dp; show A.depth + 3 * k + 5 < _; omega,by have:=r.un; show A.units + 1 + 16 * k + 200 < _; omega⟩
theorem Room.depth {k:Nat} {A:Around} (r:Room k A):A.depth < recursionLimit:=by have:=r.dp; omega
theorem Room.units {k:Nat} {A:Around} (r:Room k A):A.units + 64 < cLine:=by have:=r.un; omega
noncomputable def tNil:TA:=fun _ H Q => Q [] H
noncomputable def tCons (ta:TE) (tr:TA):TA:=fun σ H Q => ta σ H fun x H1 => tr σ H1 fun xs H2 => Q (x :: xs) H2
section
variable {X:Cx} {e:Expr} {es:List Expr} {te:TE} {t:TA} {pos:Pos}
theorem pa_nil:PA X [] tNil:=fun _ _ _ _ H Q I h => Calls.spliced_nil ⟨[],H,I,.nil,h⟩
theorem pa_cons (ha:PE X e te) (hr:PA X es t) (hs:starEach (e :: es) X.env = (false,eval e X.env) :: starEach es X.env:=by rfl):PA X (e :: es) (tCons te t):=by
  intro pos pins s σ H Q I h
  rw [hs]
  show wpAny _ _ (spliced ((false,eval e X.env) :: backTo pos (starEach es X.env))) _ _ s
  refine Calls.spliced_cons (thn (ha pins s σ H _ I h) fun u s1 ⟨x,H1,I1,r1,q1⟩ => ?_)
  exact thn (hr pos pins s1 σ H1 _ I1 q1) fun us s2 ⟨xs,H2,I2,r2,q2⟩ => ⟨x :: xs,H2,I2,.cons r1 r2,q2⟩
noncomputable def tTup (t:TA):TE:=fun σ H Q => t σ H fun xs H1 => xs.length <= sizeLine /\ ∀ p,H1 p = none -> Q (.ref p) (upd H1 p (.tup xs))
noncomputable def tLst (t:TA):TE:=fun σ H Q => t σ H fun xs H1 => xs.length <= sizeLine /\ ∀ p,H1 p = none -> Q (.ref p) (upd H1 p (.lst xs))
theorem pe_tup {x1} (h:PA X es t):PE X (.Tuple es x1 pos) (tTup t):=by
  intro pins s σ H Q I hq
  refine wpAny_Tuple_spliced (thn (h pos pins s σ H _ I hq) fun us s1 ⟨xs,H1,I1,r,z,q⟩ => ⟨by rw [← r.length]; exact z,?_⟩)
  have hf:H1 s1.heap.objs.size = none:=I1.hok.fresh (Nat.le_refl _)
  refine ⟨.ref s1.heap.objs.size,upd H1 s1.heap.objs.size (.tup xs),I1.laid (t':=s1.toks) (fun b u e => Heap.get?_push_of_some _ e) (Nat.le_refl _) ?_,rfl,q _ hf⟩
  exact ⟨⟨z,_,Heap.get?_push_size _ rfl,rfl⟩,us,r,⟨_,Heap.get?_push_size _ rfl,rfl,_,rfl⟩⟩
theorem pe_lst (h:PA X es t):PE X (.List es pos) (tLst t):=by
  intro pins s σ H Q I hq
  refine wpAny_List_spliced (thn (h pos pins s σ H _ I hq) fun us s1 ⟨xs,H1,I1,r,z,q⟩ => ⟨by rw [← r.length]; exact z,?_⟩)
  have hf:H1 s1.heap.objs.size = none:=I1.hok.fresh (Nat.le_refl _)
  refine ⟨.ref s1.heap.objs.size,upd H1 s1.heap.objs.size (.lst xs),I1.laid (t':=s1.toks) (fun b u e => Heap.get?_push_of_some _ e) (Nat.le_refl _) ?_,rfl,q _ hf⟩
  exact ⟨z,us,0,r,Heap.get?_push_size _ rfl⟩
end
noncomputable abbrev Sp:=List V -> Hp -> VK -> XK -> Prop
noncomputable abbrev CXT:=List Env -> Hp -> Shared -> XK -> Value -> Shared -> Prop
structure Env0 (P:Program) (w:World) (K:PySem.W.Frag) (mg:Str -> Option Value) (base:Heap) (A:Around) (outer:List Env) (s:Shared) (H:Hp):Prop where
  frames:A.frames = some outer
  mod:Mod K mg base
  bs:∀ b o,base.get? b = some o -> s.heap.get? b = some o /\ H b = none
  bsz:base.objs.size <= s.heap.objs.size
  funs:s.heap.FunFrames base outer
  frf:∀ b ∈ frs outer,H b = none
  hok:HOk P w H s.heap
  bare:AllBare s.gens
noncomputable def CE (outer:List Env) (P:Program) (w:World) (H:Hp) (s:Shared) (Q:VK) (u:Value) (s':Shared):Prop :=
  ∃ v H',s'.os = s.os /\ AllBare s'.gens /\ Un (frs outer) [] H H' s.heap s'.heap /\ HOk P w H' s'.heap /\ RelV v u /\ Q v H'
noncomputable def CR (CX:CXT) (outer:List Env) (P:Program) (w:World) (H:Hp) (s:Shared) (Q:VK) (E:XK) (r:Result) (s':Shared):Prop :=
  match r with
  | .ok (.ret u) => CE outer P w H s Q u s'
  | .ok _ => False
  | .error e => CX outer H s E e s'
structure FnOk (P:Program) (w:World) (K:PySem.W.Frag) (mg:Str -> Option Value) (base:Heap) (CX:CXT) (k:Nat) (f:Addr) (fd:FuncData) (ps:List Str) (sp:Sp):Prop where
  len:∀ vs H Q E,sp vs H Q E -> vs.length = ps.length
  run:∀ (A:Around) (outer:List Env) (s:Shared) (H:Hp) (args:Args) (us:List Value) (vs:List V) (Q:VK) (E:XK),Room k A -> Env0 P w K mg base A outer s H -> BindsTo s fd args (ps.zip us) -> Vals vs us -> sp vs H Q E ->
    codeAny (model P w) A (.call (.ref f) args) (CR CX outer P w H s Q E) s
theorem FnOk.mono {P:Program} {w:World} {K:PySem.W.Frag} {mg:Str -> Option Value} {base:Heap} {CX:CXT} {j k:Nat} {f:Addr} {fd:FuncData} {ps:List Str} {sp:Sp} (F:FnOk P w K mg base CX j f fd ps sp) (h:j <= k) :
    FnOk P w K mg base CX k f fd ps sp:=⟨F.len,fun A outer s H args us vs Q E hr => F.run A outer s H args us vs Q E (hr.mono h)⟩
theorem FnOk.imp {P:Program} {w:World} {K:PySem.W.Frag} {mg:Str -> Option Value} {base:Heap} {CX:CXT} {k:Nat} {f:Addr} {fd:FuncData} {ps:List Str} {sp sp':Sp} (F:FnOk P w K mg base CX k f fd ps sp)
    (h:∀ vs H Q E,sp' vs H Q E -> sp vs H Q E):FnOk P w K mg base CX k f fd ps sp' :=
  ⟨fun vs H Q E q => F.len vs H Q E (h _ _ _ _ q),fun A outer s H args us vs Q E hr he hb hv hs => F.run A outer s H args us vs Q E hr he hb hv (h _ _ _ _ hs)⟩
theorem Env0.in1 {P:Program} {w:World} {K:PySem.W.Frag} {mg:Str -> Option Value} {base:Heap} {A:Around} {outer:List Env} {s:Shared} {H:Hp} (e:Env0 P w K mg base A outer s H) :
    Env0 P w K mg base A.in1 outer s H:=⟨e.frames,e.mod,e.bs,e.bsz,e.funs,e.frf,e.hok,e.bare⟩
section
variable {X:Cx} {pins:List (Addr×Obj)} {σ:St} {H:Hp} {s s':Shared}
theorem Inv.env0 (I:Inv X pins σ H s):Env0 X.prog X.w X.K X.mg X.base X.A X.stack s H :=
  ⟨I.ok.frames,I.ok.mod,I.bs,Nat.le_trans I.ok.bsz I.sz,I.stack,I.stkFree,I.hok,I.bare⟩
theorem Inv.after {Q:VK} {u:Value} (I:Inv X pins σ H s) (h:CE X.stack X.prog X.w H s Q u s'):EP X pins σ Q u s':=by
  obtain ⟨v,H',os,bare,un,hok,r,q⟩:=h
  obtain ⟨hh,g,d,t,os'⟩:=s'
  obtain rfl:os' = s.os:=os
  exact ⟨v,H',I.call (h':=hh) (g':=g) (d':=d) (t':=t) (ch:=[]) un hok bare (fun b z => absurd z (by simp)),r,q⟩
end
noncomputable def tCall (sp:Sp) (dvs:List V) (E:XK) (t:TA):TE:=fun σ H Q => t σ H fun vs H1 => sp (vs ++ dvs) H1 Q E
noncomputable def Binds (K:PySem.W.Frag) (fd:FuncData) (ps:List Str) (ds:List Value):Prop :=
  ∀ (s:Shared) (us:List Value),K.In s.heap -> (us ++ ds).length = ps.length -> BindsTo s fd ⟨us,[]⟩ (ps.zip (us ++ ds))
theorem Binds.all {K:PySem.W.Frag} {fd:FuncData} {ps:List Str} (h:∀ us:List Value,us.length = ps.length -> bindArgs fd ⟨us,[]⟩ = pure (ps.zip us)):Binds K fd ps []:=fun s us _ hl => by
  rw [List.append_nil] at hl ⊢
  exact .of_eq (h us hl)
noncomputable def Passes (CX:CXT) (X:Cx) (E:XK):Prop:=∀ (pins:List (Addr×Obj)) (σ:St) (H:Hp) (s:Shared) (e:Value) (s':Shared),Inv X pins σ H s -> CX X.stack H s E e s' -> X.xe e s'
section
variable {X:Cx} {CX:CXT} {k:Nat} {f C:Addr} {fd:FuncData} {ps:List Str} {sp:Sp} {dvs:List V} {ds:List Value} {E:XK} {x m:Str} {p pos apos:Pos} {e o:Expr} {es:List Expr} {ta:TE} {t:TA}
theorem run_fn {pins:List (Addr×Obj)} {σ:St} {H:Hp} {s:Shared} {Q:VK} {us:List Value} {vs:List V} (F:FnOk X.prog X.w X.K X.mg X.base CX k f fd ps sp) (hr:Room k X.A) (hb:Binds X.K fd ps ds) (hd:Vals dvs ds) (hx:Passes CX X E)
    (I:Inv X pins σ H s) (r:Vals vs us) (h:sp (vs ++ dvs) H Q E):wpAny (model X.prog X.w) X.A (call (.ref f) us) (EP X pins σ Q) X.xe s:=by
  have r2:Vals (vs ++ dvs) (us ++ ds):=r.append hd
  have hl:(us ++ ds).length = ps.length:=by rw [← r2.length]; exact F.len _ _ _ _ h
  refine wpAny_call (codeAny_mono (F.run X.A X.stack s H ⟨us,[]⟩ (us ++ ds) (vs ++ dvs) Q E hr I.env0 (hb s us I.kIn hl) r2 h) fun r s' hq => ?_)
  cases r with
  | error e => exact hx pins σ H s e s' I hq
  | ok fl =>
    cases fl with
    | ret u => exact I.after hq
    | next => exact False.elim hq
    | brk => exact False.elim hq
    | cont => exact False.elim hq
theorem pe_call (F:FnOk X.prog X.w X.K X.mg X.base CX k f fd ps sp) (hr:Room k X.A) (hg:Gl X x) (hm:X.mg x = some (.ref f)) (hk:PySem.W.keepIn X.K (.ref f) = true) (hb:Binds X.K fd ps ds) (hd:Vals dvs ds) (hx:Passes CX X E)
    (ha:PA X (e :: es) t) (hdb:(x == ("__debug__":Str)) = false:=by decide) (he:starEach (e :: es) X.env = (false,eval e X.env) :: starEach es X.env:=by rfl) (hpl:(backTo pos (starEach es X.env)).any (·.1) = false:=by rfl) :
    PE X (.Call (.Name x p) (e :: es) [] pos) (tCall sp dvs E t):=by
  intro pins s σ H Q I h
  refine wpAny_Call_Name_kw (ld_glob I hg hm ?_ hdb)
  refine PySem.W.callWith_K (h₀:=X.base) I.ok.mod.kin hk (thn (ha pos pins s σ H _ I h) fun us s1 ⟨vs,H1,I1,r,q⟩ => ⟨I1.kIn,?_⟩) he hpl
  exact run_fn F hr hb hd hx I1 r q
end
section
variable {X:Cx} {CX:CXT} {k:Nat} {f C:Addr} {fd:FuncData} {ps ks:List Str} {sp:Sp} {E:XK} {x m:Str} {p pos apos kpos:Pos} {e o:Expr} {es:List Expr} {kws:List Keyword} {te ta:TE} {t tk:TA} {nm:Option Str}
structure KBinds (K:PySem.W.Frag) (fd:FuncData) (ps ks:List Str) (g:List Value -> List Value -> List Value) (gV:List V -> List V -> List V):Prop where
  to:∀ (s:Shared) (us ws:List Value),K.In s.heap -> (g us ws).length = ps.length -> BindsTo s fd ⟨us,ks.zip ws⟩ (ps.zip (g us ws))
  rel:∀ {vs:List V} {us:List Value} {zs:List V} {ws:List Value},Vals vs us -> Vals zs ws -> Vals (gV vs zs) (g us ws)
noncomputable def tCallK (sp:Sp) (gV:List V -> List V -> List V) (E:XK) (t tk:TA):TE:=fun σ H Q => t σ H fun vs H1 => tk σ H1 fun zs H2 => sp (gV vs zs) H2 Q E
variable {g:List Value -> List Value -> List Value} {gV:List V -> List V -> List V}
end
structure FnScope (N P:List Str) (sc:Scope):Prop where
  kind:sc.kind = .function
  co:sc.isCoroutine = false
  gen:sc.isGenerator = false
  nd:N.Nodup
  pre:N.take P.length = P
  par:∀ x ∈ P,sc.names.lookup x = some .local ∨ sc.names.lookup x = some .cell
  nofree:∀ y ∈ sc.names,y.2 ≠ .free
theorem bindL_out {kindOf:Str -> Option NameKind} {x:Str}:∀ {binds:List (Str×Value)} {m:Str -> Option Value},(∀ v,(x,v) ∉ binds) -> bindL kindOf binds m x = m x
  | [],_,_ => rfl
  | (n,v) :: r,m,h => by
    unfold bindL
    rw [bindL_out fun w hw => h w (List.mem_cons_of_mem _ hw)]
    split
    . have:x ≠ n:=by rintro rfl; exact h v List.mem_cons_self
      simp [this]
    . rfl
theorem bindC_out {kindOf:Str -> Option NameKind} {x:Str}:∀ {binds:List (Str×Value)} {m:Str -> Option Value},(∀ v,(x,v) ∉ binds) -> bindC kindOf binds m x = m x
  | [],_,_ => rfl
  | (n,v) :: r,m,h => by
    unfold bindC
    rw [bindC_out fun w hw => h w (List.mem_cons_of_mem _ hw)]
    split
    . rfl
    . have:x ≠ n:=by rintro rfl; exact h v List.mem_cons_self
      simp [this]
theorem bindL_get {kindOf:Str -> Option NameKind} {x:Str} {v:Value}:∀ {P:List Str} {vs:List Value} {i:Nat} {m:Str -> Option Value},P.Nodup -> P[i]? = some x -> vs[i]? = some v -> kindOf x = some .local ->
    bindL kindOf (P.zip vs) m x = some v
  | [],_,_,_,_,h,_,_ => by simp at h
  | _ :: _,[],_,_,_,_,h,_ => by simp at h
  | p :: P,w :: vs,0,m,nd,h1,h2,hk => by
    simp at h1 h2; subst h1; subst h2
    show bindL kindOf ((p,w) :: P.zip vs) m p = _
    unfold bindL
    rw [bindL_out fun v hv => (List.nodup_cons.mp nd).1 (List.of_mem_zip hv).1,if_pos hk]
    simp
  | p :: P,w :: vs,i + 1,m,nd,h1,h2,hk => by
    show bindL kindOf ((p,w) :: P.zip vs) m x = _
    unfold bindL
    exact bindL_get (i:=i) (List.nodup_cons.mp nd).2 (by simpa using h1) (by simpa using h2) hk
theorem bindC_get {kindOf:Str -> Option NameKind} {x:Str} {v:Value}:∀ {P:List Str} {vs:List Value} {i:Nat} {m:Str -> Option Value},P.Nodup -> P[i]? = some x -> vs[i]? = some v -> kindOf x ≠ some .local ->
    bindC kindOf (P.zip vs) m x = some v
  | [],_,_,_,_,h,_,_ => by simp at h
  | _ :: _,[],_,_,_,_,h,_ => by simp at h
  | p :: P,w :: vs,0,m,nd,h1,h2,hk => by
    simp at h1 h2; subst h1; subst h2
    show bindC kindOf ((p,w) :: P.zip vs) m p = _
    unfold bindC
    rw [bindC_out fun v hv => (List.nodup_cons.mp nd).1 (List.of_mem_zip hv).1,if_neg hk]
    simp
  | p :: P,w :: vs,i + 1,m,nd,h1,h2,hk => by
    show bindC kindOf ((p,w) :: P.zip vs) m x = _
    unfold bindC
    exact bindC_get (i:=i) (List.nodup_cons.mp nd).2 (by simpa using h1) (by simpa using h2) hk
noncomputable def start (N:List Str) (vs:List V):St:=vs.map some ++ List.replicate (N.length - vs.length) none
noncomputable def cxOf (CX:CXT) (P:Program) (w:World) (K:PySem.W.Frag) (mg:Str -> Option Value) (base:Heap) (N:List Str) (qual:Str) (scope:Scope) (f:Addr) (cd:Value) (A:Around) (outer:List Env) (s:Shared) (H:Hp) (E:XK):Cx where
  prog:=P
  w:=w
  K:=K
  mg:=mg
  base:=base
  A:=A.deeper (envOfC qual scope s.heap.objs.size f cd)
  N:=N
  s₀:=s
  H₀:=H
  env:=envOfC qual scope s.heap.objs.size f cd
  outer:=outer
  stack:=envOfC qual scope s.heap.objs.size f cd :: outer
  ex:=[]
  calm:=true
  fn:=fun _ => true
  pn:=[]
  xe:=fun e s' => wpAny (model P w) (A.deeper (envOfC qual scope s.heap.objs.size f cd)) (leaving (envOfC qual scope s.heap.objs.size f cd) e) (fun _ s'' => CX outer H s E e s'') (fun e' s'' => CX outer H s E e' s'') s'
theorem cell_has {sc:Scope} {n:Nat} {x:Str} (h:sc.names.lookup x = some .cell):∃ c,(cellsFrom n sc.names []).lookup x = some c:=by
  have q:=PySem.W.cellsFrom_some sc.names n [] (.inl h)
  exact Option.isSome_iff_exists.mp q
theorem inv_start {CX:CXT} {P:Program} {w:World} {K:PySem.W.Frag} {mg:Str -> Option Value} {base:Heap} {N ps:List Str} {qual:Str} {scope:Scope} {f:Addr} {cd:Value} {A:Around} {outer:List Env} {s s1:Shared} {H:Hp} {E:XK} {us:List Value} {vs:List V}
    (S:FnScope N ps scope) (hd:A.handled = none) (e0:Env0 P w K mg base A outer s H) (hl:vs.length = ps.length) (r:Vals vs us)
    (x:InCallC s s.heap.objs.size (bindL (envOfC qual scope s.heap.objs.size f cd).kindOf (ps.zip us) fun _ => none) (cellsFrom (s.heap.objs.size + 1) scope.names []) (bindC (envOfC qual scope s.heap.objs.size f cd).kindOf (ps.zip us) fun _ => none) s1) :
    Inv (cxOf CX P w K mg base N qual scope f cd A outer s H E) [] (start N vs) H s1:=by
  have hpl:ps.length <= N.length:=by have:=congrArg List.length S.pre; rw [List.length_take] at this; omega
  obtain ⟨h1,tk,rfl,hk⟩:=x.done
  have noA:∀ b:Addr,b ∉ (cxOf CX P w K mg base N qual scope f cd A outer s H E).ex:=fun b z => absurd (show b ∈ ([]:List Addr) from z) (by simp)
  refine ⟨⟨e0.mod,S.kind,rfl,rfl,Nat.le_refl _,fun y z c h1 h2 => ?_,fun y hy => ?_,fun y c _ h => ?_,fun _ => hd,Around.frames_deeper e0.frames,.inr ⟨rfl,rfl⟩,fun b z => absurd z (noA b),e0.bs,e0.bsz,fun b _ _ => noA b,fun b z => absurd z (noA b),e0.funs,e0.frf⟩,
    rfl,e0.bare,Un.kept hk,⟨_,x.toInCall.ns,fun i y v h1 h2 h3 => ?_⟩,fun y c h => ⟨_,x.cell y c h⟩,e0.hok.fresh (Nat.le_refl _),fun y c h => ?_,fun p hp => absurd (show p ∈ ([]:List (Addr×Obj)) from hp) (by simp),e0.hok.kept hk,?_⟩
  . exact name_of_addr x.apart (PySem.mem_of_lookup h1) (PySem.mem_of_lookup h2)
  . have hy:scope.names.lookup y = some .cell ∨ scope.names.lookup y = some .free:=hy
    rcases hy with hy | hy
    . exact cell_has hy
    . exact absurd rfl (S.nofree _ (PySem.mem_of_lookup hy))
  . exact Nat.le_of_lt (x.above y c (PySem.mem_of_lookup h))
  . have hi:i < vs.length:=by
      unfold start at h2
      by_cases hi:i < vs.length
      . exact hi
      . rw [List.getElem?_append_right (by simpa using hi)] at h2
        rw [List.getElem?_replicate] at h2
        split at h2 <;> cases h2
    have ha:vs[i]? = some v:=by
      unfold start at h2
      rw [List.getElem?_append_left (by simpa using hi),List.getElem?_map] at h2
      cases e:vs[i]? with
      | none => rw [e] at h2; cases h2
      | some a => rw [e] at h2; cases h2; rfl
    obtain ⟨u,hu,rv⟩:=r.get ha
    have hp:ps[i]? = some y:=by
      rw [← S.pre,List.getElem?_take_of_lt (by omega)]; exact h1
    have ndP:ps.Nodup:=by rw [← S.pre]; exact S.nd.sublist (List.take_sublist _ _)
    refine ⟨u,rv,?_⟩
    rcases S.par y (List.mem_of_getElem? hp) with k | k
    . exact .inl ⟨k,bindL_get ndP hp hu k⟩
    . obtain ⟨c,e⟩:=cell_has (n:=s.heap.objs.size + 1) k
      refine .inr ⟨.inl k,c,e,?_⟩
      have q:=x.cell y c e
      rw [bindC_get ndP hp hu (by show scope.names.lookup y ≠ _; rw [k]; decide)] at q
      exact q
  . exact e0.hok.fresh (Nat.le_of_lt (x.above y c (PySem.mem_of_lookup h)))
  . unfold start
    show _ = N.length
    rw [List.length_append,List.length_map,List.length_replicate]
    omega
theorem fn_of {CX:CXT} {P:Program} {w:World} {K:PySem.W.Frag} {mg:Str -> Option Value} {base:Heap} {k:Nat} {f:Addr} {name qual:Str} {params:Arguments} {body:List Stmt} {scope:Scope} {dV kV doc pm cdv ct oc:Value} {an od:Option Addr}
    {osl:Array (Option Value)} {N ps:List Str} {sp:Sp} (lk:K.lookup f = some ⟨oc,od,.func (PySem.W.fnOf name qual params body scope dV kV doc pm an cdv ct),osl⟩) (hcd:PySem.W.codeIn K cdv qual = true) (S:FnScope N ps scope)
    (len:∀ vs H Q E,sp vs H Q E -> vs.length = ps.length)
    (hbody:∀ (A:Around) (outer:List Env) (s:Shared) (H:Hp) (vs:List V) (Q:VK) (E:XK),Room k (A.deeper (envOfC qual scope s.heap.objs.size f cdv)) -> sp vs H Q E ->
      ∃ t,PSs (cxOf CX P w K mg base N qual scope f cdv A outer s H E) body t /\ t { nx:=fun _ H' => Q .non H',rt:=Q } (start N vs) H) :
    FnOk P w K mg base CX (k + 1) f (PySem.W.fnOf name qual params body scope dV kV doc pm an cdv ct) ps sp:=by
  refine ⟨len,fun A outer s H args us vs Q E hr e0 hb r hsp => ?_⟩
  have hl:=len _ _ _ _ hsp
  have KX:K.In s.heap:=e0.mod.kin.keeps fun b o e => (e0.bs b o e).1
  have lim:s.heap.NoLimit:=e0.mod.nolimit.keeps fun b o e => (e0.bs b o e).1
  have hkind:∀ y ∈ ps.zip us,scope.names.lookup y.1 = some .local ∨ (scope.names.lookup y.1 = some .cell /\ ((cellsFrom (s.heap.objs.size + 1) scope.names []).lookup y.1).isSome = true):=fun ⟨n,v⟩ hy => by
    rcases S.par n (List.of_mem_zip hy).1 with q | q
    . exact .inl q
    . exact .inr ⟨q,PySem.W.cellsFrom_some _ _ _ (.inl q)⟩
  refine codeAny_call_function hr.depth (KX _ _ lk) rfl S.co S.gen rfl (PySem.W.codeRec_of KX hcd) (hb _ _ _ _ ?_)
  refine wpAny_newFunctionEnv_cells S.kind hkind fun env he s1 x => ?_
  subst he
  refine ⟨lim.keeps x.toInCall.keep,codeAny_func ?_⟩
  obtain ⟨t,ht,hq⟩:=hbody A outer s H vs Q E (hr.deeper _) hsp
  have I:Inv (cxOf CX P w K mg base N qual scope f cdv A outer s H E) [] (start N vs) H s1:=inv_start S hr.hd e0 hl r x
  refine wpAny_mono (ht [] s1 (start N vs) H _ I hq) (fun fl s' hs => ?_) fun e s' hs => hs
  have fin:∀ {σ':St} {H':Hp} {v:V} {u:Value},Inv (cxOf CX P w K mg base N qual scope f cdv A outer s H E) [] σ' H' s' -> RelV v u -> Q v H' -> CE outer P w H s Q u s' :=
    fun {σ' H' v u} J rv q => ⟨v,H',J.os,J.bare,J.base,J.hok,rv,q⟩
  cases fl with
  | ret u =>
    obtain ⟨v,σ',H',J,rv,q⟩:=hs
    exact fin J rv q
  | next =>
    obtain ⟨σ',H',J,q⟩:=hs
    exact fin (v:=V.non) (u:=Value.none) J rfl q
  | brk =>
    obtain ⟨_,_,_,q⟩:=hs
    exact False.elim q
  | cont =>
    obtain ⟨_,_,_,q⟩:=hs
    exact False.elim q
end L2
namespace L2
open PySem PySem.Spec PyProof.Rows
section
variable {X:Cx} {x:Str} {p pos:Pos} {e:Expr} {es:List Expr} {t:TA} {id T:String} {r:List V -> Hp -> VK -> Prop}
noncomputable def tCB (r:List V -> Hp -> VK -> Prop) (t:TA):TE:=fun σ H Q => t σ H fun vs H1 => r vs H1 Q
theorem pe_callB (hc:CallR X (.builtin id) r) (hg:Gl X x) (hm:X.mg x = none) (hv:bootBuiltins x = some (.builtin id)) (ha:PA X (e :: es) t) (hn:x ≠ "__name__":=by decide) (hdb:(x == ("__debug__":Str)) = false:=by decide)
    (he:starEach (e :: es) X.env = (false,eval e X.env) :: starEach es X.env:=by rfl) (hpl:(backTo pos (starEach es X.env)).any (·.1) = false:=by rfl):PE X (.Call (.Name x p) (e :: es) [] pos) (tCB r t):=by
  intro pins s σ H Q I h
  refine wpAny_Call_Name_kw (ld_blt I hg hm hv ?_ hn hdb)
  exact PyProof.Rows.callWith_builtin1 (thn (ha pos pins s σ H _ I h) fun us s1 ⟨vs,H1,I1,r1,q1⟩ => hc pins s1 σ H1 vs us Q I1 r1 q1) he hpl
theorem pe_callTy (hc:CallR X (.type T) r) (hg:Gl X x) (hm:X.mg x = none) (hv:bootBuiltins x = some (.type T)) (ha:PA X (e :: es) t) (hn:x ≠ "__name__":=by decide) (hdb:(x == ("__debug__":Str)) = false:=by decide)
    (he:starEach (e :: es) X.env = (false,eval e X.env) :: starEach es X.env:=by rfl) (hpl:(backTo pos (starEach es X.env)).any (·.1) = false:=by rfl):PE X (.Call (.Name x p) (e :: es) [] pos) (tCB r t):=by
  intro pins s σ H Q I h
  refine wpAny_Call_Name_kw (ld_blt I hg hm hv ?_ hn hdb)
  exact PyProof.Rows.callWith_type1 (thn (ha pos pins s σ H _ I h) fun us s1 ⟨vs,H1,I1,r1,q1⟩ => hc pins s1 σ H1 vs us Q I1 r1 q1) he hpl
end
end L2
namespace HT
open PySem PyProof.Rows
section
open PySem.SeqAt
open PySem.AutoSeq1 (wpAny_loadPart')
open PySem.MeetsSeq PySem.MeetsSeq2 PySem.MeetsSeq3
end
section
variable {prog:Program} {w:World} {A:Around} {E:Value -> Shared -> Prop} {s:Shared}
theorem cat_tup {t b:Addr} {vs ws:List Value} {Q:Value -> Shared -> Prop} (ht:IsTup s.heap t vs.toArray) (hb:IsTup s.heap b ws.toArray) (hv:vs ≠ [])
    (h1:ws = [] -> Q (.ref t) s) (h2:ws ≠ [] -> Q (.ref s.heap.objs.size) { s with heap:=s.heap.push { cls:=.type "tuple",data:=.seq (vs ++ ws).toArray } })
    (hsz:vs.length + ws.length <= sizeLine):wpAny (model prog w) A (binaryOp .Add (.ref t) (.ref b)) Q E s:=by
  obtain ⟨⟨cls,dd,data,sl⟩,ho,hc,n,hd⟩:=id ht
  obtain ⟨⟨cls2,dd2,data2,sl2⟩,ho2,hc2,n2,hd2⟩:=id hb
  simp only at hc hd hc2 hd2
  subst hc hd hc2 hd2
  have e:vs.toArray ++ ws.toArray = (vs ++ ws).toArray:=by simp
  by_cases hw:ws = []
  . exact concat_meets ⟨_,ho,rfl⟩ ⟨_,ho2,rfl⟩ noFill_tuple_add seq_tuple_add PySem.F.slot_tuple_add PySem.F.entry_tuple_add (PySem.F.args_tuple_add_2 _ _)
      (tuple_addW1 t b vs.toArray ws.toArray n n2 dd dd2 sl sl2 (by simpa using hv) (by simp [hw])) ⟨ho,ho2,h1 hw⟩
  . refine concat_meets ⟨_,ho,rfl⟩ ⟨_,ho2,rfl⟩ noFill_tuple_add seq_tuple_add PySem.F.slot_tuple_add PySem.F.entry_tuple_add (PySem.F.args_tuple_add_2 _ _)
      (tuple_addW2 t b vs.toArray ws.toArray n n2 dd dd2 sl sl2 (by simpa using hv) (by simpa using hw) (by rw [List.size_toArray,List.size_toArray]; exact hsz)) ⟨ho,ho2,?_⟩
    rw [e]
    exact h2 hw
noncomputable def sIx (n d:Nat):Option Int -> Nat
  | none => d
  | some v => if v < 0 then (v + (n:Int)).toNat else min v.toNat n
theorem sIx_le (n d:Nat) (hd:d <= n) (o:Option Int):sIx n d o <= n:=by
  cases o with
  | none => exact hd
  | some v =>
    show (if v < 0 then (v + (n:Int)).toNat else min v.toNat n) <= n
    by_cases hv:v < 0
    . rw [if_pos hv]; omega
    . rw [if_neg hv]; exact Nat.min_le_right _ _
theorem clip_eq (v:Int) (n d:Nat):(if v < 0 then max (v + (n:Int)) 0 else min v (n:Int)) = ((sIx n d (some v):Nat):Int):=by
  show (if v < 0 then max (v + (n:Int)) 0 else min v (n:Int)) = (((if v < 0 then (v + (n:Int)).toNat else min v.toNat n):Nat):Int)
  by_cases hv:v < 0
  . simp only [if_pos hv]; omega
  . simp only [if_neg hv]; omega
theorem adjust_gen (lo hi:Option Int) (n:Nat):Builtin.Slice.sliceAdjust lo hi 1 (n:Int) = (((sIx n 0 lo:Nat):Int),((sIx n n hi:Nat):Int)):=by
  have h1:¬ ((1:Int) < 0):=by omega
  unfold Builtin.Slice.sliceAdjust
  simp only [h1,if_false]
  refine Prod.ext ?_ ?_
  . cases lo with
    | none => rfl
    | some v => exact clip_eq v n 0
  . cases hi with
    | none => rfl
    | some v => exact clip_eq v n n
theorem places_gen (i j:Nat):Builtin.Slice.slicePlaces (i:Int) (j:Int) 1 = j - i:=by
  unfold Builtin.Slice.slicePlaces
  have h1:(1:Int) > 0:=by omega
  simp only [h1,if_true,Int.ediv_one]
  split <;> omega
theorem slicePart_ {v:Value} {o:Option Int} {Q:Option Int -> Shared -> Prop} (p:IsPart v o) (h:Q o s):wpAny (model prog w) A (Builtin.Slice.slicePartIndex v) Q E s:=by
  cases p with
  | none => exact slicePart_none h
  | int i t => exact slicePart_int h
theorem sliceApplied_gen {sl:Addr} {vl vu:Value} {lo hi:Option Int} {n:Nat} {Q:Int×Int×Nat -> Shared -> Prop} (hs:s.heap.IsSliceOf sl vl vu .none) (pl:IsPart vl lo) (pu:IsPart vu hi)
    (h:Q (((sIx n 0 lo:Nat):Int),1,sIx n n hi - sIx n 0 lo) s):wpAny (model prog w) A (Builtin.Slice.sliceApplied (.ref sl) (pure (n:Int))) Q E s:=by
  obtain ⟨os,hos,hcs,hds⟩:=id hs
  unfold Builtin.Slice.sliceApplied Builtin.Slice.sliceFields
  refine wpAny_bind (wpAny_bind (wpAny_field hos hds (x:=vl) rfl (wpAny_bind (wpAny_field hos hds (x:=vu) rfl (wpAny_bind (wpAny_field hos hds (x:=.none) rfl (wpAny_pure ?_)))))))
  refine wpAny_bind (slicePart_none ?_)
  show wpAny _ _ (if ((1:Int) == 0) = true then _ else _) _ _ s
  rw [if_neg (by decide)]
  refine wpAny_bind (slicePart_ pl (wpAny_bind (slicePart_ pu (wpAny_bind (wpAny_pure ?_)))))
  show wpAny _ _ (match Builtin.Slice.sliceAdjust lo hi 1 (n:Int) with | (lo,hi) => pure (lo,(1:Int),Builtin.Slice.slicePlaces lo hi 1)) _ _ s
  rw [adjust_gen lo hi n]
  show wpAny _ _ (pure (((sIx n 0 lo:Nat):Int),(1:Int),Builtin.Slice.slicePlaces ((sIx n 0 lo:Nat):Int) ((sIx n n hi:Nat):Int) 1)) _ _ s
  rw [places_gen]
  exact wpAny_pure h
theorem pick_gen (xs:Array Value) (i k:Nat):((List.range k).filterMap fun (m:Nat) => xs[((i:Int) + (m:Int) * 1).toNat]?).toArray = ((xs.toList.drop i).take k).toArray:=by
  have e:(fun (m:Nat) => xs[((i:Int) + (m:Int) * 1).toNat]?) = fun m => xs[i + m]?:=by
    funext m
    have:((i:Int) + (m:Int) * 1).toNat = i + m:=by omega
    rw [this]
  rw [e]
  have:=pick_run xs i k
  rw [List.filterMap_map] at this
  have e2:((fun x => xs[x]?) ∘ fun x => i + x) = fun m => xs[i + m]?:=rfl
  rw [e2] at this
  rw [this]
theorem getItem_tuple_cut {t sl:Addr} {items:Array Value} {vl vu:Value} {lo hi:Option Int} {Q:Value -> Shared -> Prop} (ht:IsTup s.heap t items) (hs:s.heap.IsSliceOf sl vl vu .none) (pl:IsPart vl lo) (pu:IsPart vu hi)
    (hw:¬ (sIx items.size 0 lo = 0 /\ sIx items.size items.size hi = items.size))
    (h:Q (.ref s.heap.objs.size) { s with heap:=s.heap.push { cls:=.type "tuple",data:=.seq ((items.toList.drop (sIx items.size 0 lo)).take (sIx items.size items.size hi - sIx items.size 0 lo)).toArray } })
    (hsz:items.size <= sizeLine):wpAny (model prog w) A (getItem (.ref t) (.ref sl)) Q E s:=by
  have htake:sizeOk (.seq ((items.toList.drop (sIx items.size 0 lo)).take (sIx items.size items.size hi - sIx items.size 0 lo)).toArray):=by
    show ((items.toList.drop (sIx items.size 0 lo)).take (sIx items.size items.size hi - sIx items.size 0 lo)).toArray.size <= sizeLine
    rw [List.size_toArray,List.length_take,List.length_drop,Array.length_toList]
    omega
  have hj:sIx items.size items.size hi <= items.size:=sIx_le _ _ (Nat.le_refl _) hi
  obtain ⟨os,hos,hcs,hds⟩:=id hs
  have hTs:s.TypeIs (.ref sl) "slice":=⟨os,hos,hcs⟩
  unfold getItem
  try with_reducible refine wpAny_holding ?_
  first | refine wpAny_bind (wpAny_pure ?_) | skip
  refine wpAny_bind (wpAny_sequenceKey ht.typeIs (by decide) ?_)
  refine wpAny_bind (wpAny_callSpecial?_slot (name:=Str.ofString "__getitem__") ht.typeIs PyProof.Rows.slot_tuple_getitem
    (wpAny_call_entry PyProof.Rows.slot_tuple_getitem ht.typeIs entry_tuple_getitem ?_ (args_tuple_getitem _ _)))
  show wpAny _ _ (Builtin.Tuple.tupleItemsOf (.ref t) >>= _) _ _ s
  refine wpAny_bind (tupleItemsOf_ ht ?_)
  refine wpAny_bind (wpAny_typeOf hTs ?_)
  rw [if_pos (by decide)]
  refine wpAny_bind (sliceApplied_gen hs pl pu ?_)
  have hno:¬ ((((sIx items.size 0 lo:Nat):Int) == 0 && (1:Int) == 1 && (sIx items.size items.size hi - sIx items.size 0 lo) == items.size) = true):=by
    intro q
    rw [Bool.and_eq_true,Bool.and_eq_true] at q
    have q1:((sIx items.size 0 lo:Nat):Int) = 0:=eq_of_beq q.1.1
    have q2:sIx items.size items.size hi - sIx items.size 0 lo = items.size:=eq_of_beq q.2
    exact hw ⟨by omega,by omega⟩
  show wpAny _ _ (if (((sIx items.size 0 lo:Nat):Int) == 0 && (1:Int) == 1 && (sIx items.size items.size hi - sIx items.size 0 lo) == items.size) = true then _ else _) _ _ s
  rw [if_neg hno,pick_gen]
  first
    | exact wpAny_bind (m:=Builtin.Tuple.tupleExact _) (wpAny_newObj_type (wpAny_pure ⟨_,rfl,wpAny_pure h⟩) htake)
    | exact wpAny_bind (m:=Builtin.Tuple.tupleExact _) (wpAny_newObj_type (wpAny_bind (wpAny_pure (wpAny_pure ⟨_,rfl,wpAny_pure h⟩))) htake)
    | exact wpAny_bind (wpAny_bind (m:=Builtin.Tuple.tupleExact _) (wpAny_newObj_type (wpAny_pure (wpAny_pure ⟨_,rfl,wpAny_pure h⟩)) htake))
    | exact wpAny_bind (wpAny_bind (m:=Builtin.Tuple.tupleExact _) (wpAny_newObj_type (wpAny_pure ⟨_,rfl,wpAny_pure h⟩) htake))
end
end HT
namespace L2
open PySem PySem.Spec PyProof.Rows
noncomputable abbrev TO:=St -> Hp -> (Option Int -> Hp -> Prop) -> Prop
noncomputable def PO (X:Cx) (e:Option Expr) (t:TO):Prop :=
  ∀ (pins:List (Addr×Obj)) (s:Shared) (σ:St) (H:Hp) (Q:Option Int -> Hp -> Prop),Inv X pins σ H s -> t σ H Q ->
    wpAny (model X.prog X.w) X.A (evalPart e X.env) (fun u s' => ∃ o H',Inv X pins σ H' s' /\ IsPart u o /\ Q o H') X.xe s
noncomputable def tNoPart:TO:=fun _ H Q => Q none H
noncomputable def tPart (t:TE):TO:=fun σ H Q => t σ H fun x H1 => ∃ i,x = .int i /\ Q (some i) H1
section
variable {X:Cx} {e:Expr} {te:TE} {lo hi:Option Expr} {tl th:TO} {pos p2:Pos}
theorem po_none:PO X none tNoPart:=by
  intro pins s σ H Q I h
  rw [evalPart_none]
  exact wpAny_pure ⟨none,H,I,.none,h⟩
theorem po_some (h:PE X e te):PO X (some e) (tPart te):=by
  intro pins s σ H Q I hw
  rw [evalPart_some]
  refine thn (h pins s σ H _ I hw) fun u s1 ⟨x,H1,I1,r1,q1⟩ => ?_
  obtain ⟨i,rfl,q⟩:=q1
  obtain ⟨t,rfl⟩:=r1
  exact ⟨some i,H1,I1,.int i t,q⟩
noncomputable def SlR (X:Cx) (r:V -> Option Int -> Option Int -> Hp -> VK -> Prop):Prop :=
  ∀ (pins:List (Addr×Obj)) (s:Shared) (σ:St) (H:Hp) (x:V) (v vl vu:Value) (lo hi:Option Int) (sl:Addr) (Q:VK),Inv X pins σ H s -> RelV x v -> s.heap.IsSliceOf sl vl vu .none -> IsPart vl lo -> IsPart vu hi -> r x lo hi H Q ->
    ∃ T id,typeLookup (.type T) "__getitem__" = pure (some (.builtin id)) /\ s.TypeIs v T /\ wpAny (model X.prog X.w) X.A (getItem v (.ref sl)) (EP X pins σ Q) X.xe s
theorem SlR.or {r r':V -> Option Int -> Option Int -> Hp -> VK -> Prop} (h:SlR X r) (h':SlR X r'):SlR X (fun x lo hi H Q => r x lo hi H Q ∨ r' x lo hi H Q):=by
  intro pins s σ H x v vl vu lo hi sl Q I rx hs pl pu q
  rcases q with q | q
  . exact h pins s σ H x v vl vu lo hi sl Q I rx hs pl pu q
  . exact h' pins s σ H x v vl vu lo hi sl Q I rx hs pl pu q
noncomputable def tSl (r:V -> Option Int -> Option Int -> Hp -> VK -> Prop) (te:TE) (tl th:TO):TE:=fun σ H Q => te σ H fun x H1 => tl σ H1 fun l H2 => th σ H2 fun u H3 => r x l u H3 Q
theorem pe_slice {r:V -> Option Int -> Option Int -> Hp -> VK -> Prop} (hr:SlR X r) (he:PE X e te) (hl:PO X lo tl) (hu:PO X hi th):PE X (.Subscript e (.Slice lo hi none p2) pos) (tSl r te tl th):=by
  intro pins s σ H Q I h
  refine Subscript_ (thn (he pins s σ H _ I h) fun v s1 ⟨x,H1,I1,r1,q1⟩ => ?_)
  refine wpAny_Slice (thn (hl pins s1 σ H1 _ I1 q1) fun vl s2 ⟨l,H2,I2,pl,q2⟩ => thn (hu pins s2 σ H2 _ I2 q2) fun vu s3 ⟨u,H3,I3,pu,q3⟩ => ?_)
  rw [evalPart_none]
  refine wpAny_pure ?_
  have I4:Inv X pins σ H3 { s3 with heap:=s3.heap.push { cls:=.type "slice",data:=.fields #[vl,vu,.none] } }:=I3.kept (t':=s3.toks) fun b ob q => Heap.get?_push_of_some _ q
  obtain ⟨T,id,hT,ht,hg⟩:=hr pins { s3 with heap:=s3.heap.push { cls:=.type "slice",data:=.fields #[vl,vu,.none] } } σ H3 x v vl vu l u s3.heap.objs.size Q I4 r1 (Heap.IsSliceOf.new ..) pl pu q3
  show wpAny (model X.prog X.w) X.A (subscriptTail e (.Slice lo hi none p2) v (.ref s3.heap.objs.size)) (EP X pins σ Q) X.xe { s3 with heap:=s3.heap.push { cls:=.type "slice",data:=.fields #[vl,vu,.none] } }
  exact tail_any (ops:=[.ref s3.heap.objs.size,v]) ht hT hg (by with_unfolding_all rfl)
noncomputable def cutV (xs:List V) (lo hi:Option Int):List V:=(xs.drop (HT.sIx xs.length 0 lo)).take (HT.sIx xs.length xs.length hi - HT.sIx xs.length 0 lo)
theorem cutV_length (xs:List V) (lo hi:Option Int):(cutV xs lo hi).length <= xs.length:=by
  unfold cutV
  rw [List.length_take,List.length_drop]
  omega
noncomputable def rSlT (K:PySem.W.Frag):V -> Option Int -> Option Int -> Hp -> VK -> Prop:=fun x lo hi H Q => ∃ a xs,x = .ref a /\ SqT K H a xs /\
  ¬ (HT.sIx xs.length 0 lo = 0 /\ HT.sIx xs.length xs.length hi = xs.length) /\ ∀ p,H p = none -> Q (.ref p) (upd H p (.tup (cutV xs lo hi)))
theorem sl_tup:SlR X (rSlT X.K):=by
  intro pins s σ H x v vl vu lo hi sl Q I rx hs pl pu h
  obtain ⟨a,xs,rfl,hx,hw,q⟩:=h
  cases rx
  obtain ⟨its,r,ht,hz⟩:=I.tuple hx
  have hlen:its.toArray.size = xs.length:=by rw [List.size_toArray]; exact r.length.symm
  refine ⟨"tuple",_,PyProof.Rows.slot_tuple_getitem.lookup,ht.typeIs,?_⟩
  refine HT.getItem_tuple_cut ht hs pl pu (by rw [hlen]; exact hw) ?_ (by rw [hlen]; exact hz)
  rw [hlen]
  refine ⟨.ref s.heap.objs.size,_,I.laid (t':=s.toks) (o:=.tup (cutV xs lo hi)) (fun b ob q => Heap.get?_push_of_some _ q) (Nat.le_refl _) ?_,rfl,q _ (I.hok.fresh (Nat.le_refl _))⟩
  exact ⟨⟨Nat.le_trans (cutV_length xs lo hi) hz,_,Heap.get?_push_size _ rfl,rfl⟩,_,(r.drop (HT.sIx xs.length 0 lo)).take (HT.sIx xs.length xs.length hi - HT.sIx xs.length 0 lo),IsTup.new _ _⟩
noncomputable def rCatT (K:PySem.W.Frag):R2:=fun x y H Q => ∃ a b xs ys,x = .ref a /\ y = .ref b /\ SqT K H a xs /\ SqT K H b ys /\ xs ≠ [] /\ xs.length + ys.length <= sizeLine /\
  (ys = [] -> Q (.ref a) H) /\ (ys ≠ [] -> ∀ p,H p = none -> Q (.ref p) (upd H p (.tup (xs ++ ys))))
theorem Vals.nil_iff {xs:List V} {us:List Value} (r:Vals xs us):us = [] ↔ xs = []:=by
  cases r with
  | nil => simp
  | cons _ _ => simp
theorem op_catT:OpR X (binaryOp .Add) (rCatT X.K):=by
  intro pins s σ H x y v u Q I rx ry h
  obtain ⟨a,b,xs,ys,rfl,rfl,ha,hb,hx,hz,q1,q2⟩:=h
  cases rx
  cases ry
  obtain ⟨its,r1,p1,_⟩:=I.tuple ha
  obtain ⟨its2,r2,p2,_⟩:=I.tuple hb
  refine HT.cat_tup p1 p2 (fun z => hx (r1.nil_iff.mp z)) (fun z => ⟨.ref a,H,I,rfl,q1 (r2.nil_iff.mp z)⟩) (fun z => ?_) (by rw [← r1.length,← r2.length]; exact hz)
  refine ⟨.ref s.heap.objs.size,_,I.laid (t':=s.toks) (o:=.tup (xs ++ ys)) (fun b ob q => Heap.get?_push_of_some _ q) (Nat.le_refl _) ?_,rfl,q2 (fun w => z (r2.nil_iff.mpr w)) _ (I.hok.fresh (Nat.le_refl _))⟩
  exact ⟨⟨by rw [List.length_append]; exact hz,_,Heap.get?_push_size _ rfl,rfl⟩,_,r1.append r2,IsTup.new _ _⟩
end
end L2
namespace L2
open PySem PySem.Spec PyProof.Rows
noncomputable def ixN (n:Nat) (i:Int):Option Nat:=if 0 <= i then (if i < n then some i.toNat else none) else if -(n:Int) <= i then some (i + n).toNat else none
noncomputable def atI {α:Type} (xs:List α) (i:Int):Option α:=(ixN xs.length i).bind fun j => xs[j]?
theorem ixN_seq {n:Nat} {i:Int} {j:Nat} (h:ixN n i = some j):seqIndex? i n = some j /\ j < n /\ -(n:Int) <= i /\ i < n:=by
  unfold ixN at h
  by_cases h0:0 <= i
  . rw [if_pos h0] at h
    by_cases h1:i < n
    . rw [if_pos h1] at h
      have e:i.toNat = j:=Option.some.inj h
      exact ⟨by rw [seqIndex_of h0 h1,e],by omega,by omega,h1⟩
    . rw [if_neg h1] at h; cases h
  . rw [if_neg h0] at h
    by_cases h1:-(n:Int) <= i
    . rw [if_pos h1] at h
      have e:(i + n).toNat = j:=Option.some.inj h
      exact ⟨by rw [seqIndex_neg (by omega) h1,e],by omega,h1,by omega⟩
    . rw [if_neg h1] at h; cases h
theorem atI_get {α:Type} {xs:List α} {i:Int} {v:α} (h:atI xs i = some v):∃ j,seqIndex? i xs.length = some j /\ xs[j]? = some v /\ j < xs.length /\ -(xs.length:Int) <= i /\ i < xs.length:=by
  unfold atI at h
  cases e:ixN xs.length i with
  | none => rw [e] at h; cases h
  | some j =>
    rw [e] at h
    obtain ⟨h1,h2,h3,h4⟩:=ixN_seq e
    exact ⟨j,h1,h,h2,h3,h4⟩
theorem atI_nat {α:Type} {xs:List α} {j:Nat} {v:α} (h:xs[j]? = some v):atI xs (j:Int) = some v:=by
  have hj:j < xs.length:=(List.getElem?_eq_some_iff.mp h).1
  have e:ixN xs.length (j:Int) = some j:=by
    unfold ixN
    rw [if_pos (by omega),if_pos (by omega)]; simp
  unfold atI; rw [e]; exact h
noncomputable def PlainIx (b:Expr):Prop:=∀ o i,subscripted b false o i = operate [o,i] (getItem o i)
noncomputable def IxR (X:Cx) (r:R2):Prop :=
  ∀ (value slice:Expr) (pins:List (Addr×Obj)) (s:Shared) (σ:St) (H:Hp) (x y:V) (v u:Value) (Q:VK),Inv X pins σ H s -> RelV x v -> RelV y u -> r x y H Q ->
    subscripted slice false v u = operate [v,u] (getItem v u) -> wpAny (model X.prog X.w) X.A (subscriptTail value slice v u) (EP X pins σ Q) X.xe s
noncomputable def MtR (X:Cx) (id:String) (r:V -> List V -> Hp -> VK -> Prop):Prop :=
  ∀ (pins:List (Addr×Obj)) (s:Shared) (σ:St) (H:Hp) (x:V) (xs:List V) (v:Value) (us:List Value) (Q:VK),Inv X pins σ H s -> RelV x v -> Vals xs us -> r x xs H Q ->
    wpAny (model X.prog X.w) X.A (call (.builtin id) (v :: us)) (EP X pins σ Q) X.xe s
section
variable {X:Cx} {a b:Expr} {ta tb:TE} {pos:Pos}
theorem IxR.or {r r':R2} (h:IxR X r) (h':IxR X r'):IxR X (fun x y H Q => r x y H Q ∨ r' x y H Q):=by
  intro value slice pins s σ H x y v u Q I rx ry q hs
  rcases q with q | q
  . exact h value slice pins s σ H x y v u Q I rx ry q hs
  . exact h' value slice pins s σ H x y v u Q I rx ry q hs
theorem MtR.or {id:String} {r r':V -> List V -> Hp -> VK -> Prop} (h:MtR X id r) (h':MtR X id r'):MtR X id (fun x xs H Q => r x xs H Q ∨ r' x xs H Q):=by
  intro pins s σ H x xs v us Q I rx rs q
  rcases q with q | q
  . exact h pins s σ H x xs v us Q I rx rs q
  . exact h' pins s σ H x xs v us Q I rx rs q
theorem pe_ix {r:R2} (hr:IxR X r) (ha:PE X a ta) (hb:PE X b tb) (hs:PlainIx b):PE X (.Subscript a b pos) (tOp r ta tb):=by
  intro pins s σ H Q I h
  exact Subscript_ (binT ha hb I h fun v u s2 x y H2 I2 rx ry q => hr a b pins s2 σ H2 x y v u Q I2 rx ry q (hs _ _))
noncomputable def rIxL (K:PySem.W.Frag):R2:=fun x y H Q => ∃ p xs i v,x = .ref p /\ y = .int i /\ SqL K H p xs /\ atI xs i = some v /\ Q v H
noncomputable def rIxT (K:PySem.W.Frag):R2:=fun x y H Q => ∃ p xs i v,x = .ref p /\ y = .int i /\ SqT K H p xs /\ atI xs i = some v /\ Q v H
noncomputable def rIxS:R2:=fun x y H Q => ∃ z i c,x = .str z /\ y = .int i /\ z.length <= sizeLine /\ atI z.cps.toList i = some c /\ Q (.str ⟨#[c]⟩) H
theorem ix_list:IxR X (rIxL X.K):=by
  intro value slice pins s σ H x y v u Q I rx ry h hs
  obtain ⟨p,xs,i,z,rfl,rfl,hq,he,q⟩:=h
  cases rx
  obtain ⟨t,rfl⟩:=ry
  obtain ⟨its,r,pl,hz⟩:=I.list hq
  obtain ⟨j,h1,h2,h3,h4,h5⟩:=atI_get he
  obtain ⟨w,ew,rw'⟩:=r.get h2
  have hl:=r.length
  have hn:=line63
  have fin:EP X pins σ Q w s:=⟨z,H,I,rw',q⟩
  by_cases h0:0 <= i
  . have hj:i.toNat = j:=by
      rw [seqIndex_of h0 h5] at h1
      exact Option.some.inj h1
    exact item_listR pl.isList h0 (by omega) (by rw [hj]; simpa using ew) fin hs
  . have hj:(i + (its.toArray.size:Int)).toNat = j:=by
      rw [seqIndex_neg (by omega) h4] at h1
      rw [List.size_toArray,← hl]
      exact Option.some.inj h1
    exact subscriptTail_builtinR (x:=w) pl.isList.typeIs slot_list_getitem.lookup
      (wpAny_getItem_list_neg (Q:=fun r s' => r = w /\ EP X pins σ Q r s') pl.isList (by omega) (by rw [List.size_toArray] <;> omega) (by omega) (by rw [hj]; simpa using ew) ⟨rfl,fin⟩) hs
theorem ix_tup:IxR X (rIxT X.K):=by
  intro value slice pins s σ H x y v u Q I rx ry h hs
  obtain ⟨p,xs,i,z,rfl,rfl,hq,he,q⟩:=h
  cases rx
  obtain ⟨t,rfl⟩:=ry
  obtain ⟨its,r,pl,hz⟩:=I.tuple hq
  obtain ⟨j,h1,h2,h3,h4,h5⟩:=atI_get he
  obtain ⟨w,ew,rw'⟩:=r.get h2
  have hl:=r.length
  have hn:=line63
  have fin:EP X pins σ Q w s:=⟨z,H,I,rw',q⟩
  exact subscriptTail_builtinR (x:=w) pl.typeIs slot_tuple_getitem.lookup
    (getItem_tuple (j:=j) (Q:=fun r s' => r = w /\ EP X pins σ Q r s') pl (by omega) (by omega) (by rw [List.size_toArray,← hl]; exact h1) (by simpa using ew) ⟨rfl,fin⟩) hs
theorem ix_str:IxR X rIxS:=by
  intro value slice pins s σ H x y v u Q I rx ry h hs
  obtain ⟨z,i,c,rfl,rfl,hz,he,q⟩:=h
  obtain ⟨t,rfl⟩:=rx
  obtain ⟨t',rfl⟩:=ry
  obtain ⟨j,h1,h2,h3,h4,h5⟩:=atI_get he
  have hl:z.cps.toList.length = z.length:=by simp [Str.length]
  rw [hl] at h1 h4 h5
  have hn:=line63
  exact tail_any (typeIs_str s z t) slot_str_getitem.lookup (getItem_str (c:=c) (by
    have e1:decide (i < -(2 ^ 63:Int)) = false:=decide_eq_false (by omega)
    have e2:decide (i ≥ 2 ^ 63) = false:=decide_eq_false (by omega)
    rw [e1,e2,Bool.or_false]) (by rw [h1]; simpa using h2) ⟨.str ⟨#[c]⟩,H,I.tok _,⟨_,rfl⟩,q⟩) hs
noncomputable def rIx (K:PySem.W.Frag):R2:=fun x y H Q => rIxL K x y H Q ∨ rIxT K x y H Q ∨ rIxS x y H Q
theorem ix_seq:IxR X (rIx X.K):=ix_list.or (ix_tup.or ix_str)
theorem Inv.lst {pins:List (Addr×Obj)} {σ:St} {H:Hp} {s:Shared} {p:Addr} {xs:List V} (I:Inv X pins σ H s) (h:H p = some (.lst xs)) :
    ∃ (its:List Value) (n:Nat),Vals xs its /\ s.heap.get? p = some { cls:=.type "list",data:=.seq its.toArray n } /\ xs.length <= sizeLine:=by
  obtain ⟨z,its,n,r,e⟩:=I.hok p _ h
  exact ⟨its,n,r,e,z⟩
theorem slice_bounds (lo hi:Option Int) (n:Nat):(sliceBounds lo hi none n).1 = ((HT.sIx n 0 lo:Nat):Int) /\ (sliceBounds lo hi none n).2.1 = ((HT.sIx n n hi:Nat):Int) /\ (sliceBounds lo hi none n).2.2 = 1:=by
  refine ⟨?_,?_,rfl⟩
  . cases lo with
    | none => simp [sliceBounds,HT.sIx]
    | some i =>
      simp only [sliceBounds,HT.sIx,Option.getD_none,show (1:Int) > 0 by decide,if_true]
      by_cases h:i < 0
      . simp only [h,if_true] <;> omega
      . simp only [h,if_false] <;> omega
  . cases hi with
    | none => simp [sliceBounds,HT.sIx]
    | some i =>
      simp only [sliceBounds,HT.sIx,Option.getD_none,show (1:Int) > 0 by decide,if_true]
      by_cases h:i < 0
      . simp only [h,if_true] <;> omega
      . simp only [h,if_false] <;> omega
theorem slicePick_cut (its:List Value) (lo hi:Option Int):slicePick its.toArray lo hi none = ((its.drop (HT.sIx its.length 0 lo)).take (HT.sIx its.length its.length hi - HT.sIx its.length 0 lo)).toArray:=by
  obtain ⟨h1,h2,h3⟩:=slice_bounds lo hi its.toArray.size
  unfold slicePick
  rw [h1,h2,h3]
  simp only [sliceRange_one,pick_run,List.size_toArray] <;> rfl
noncomputable def rSlL (K:PySem.W.Frag):V -> Option Int -> Option Int -> Hp -> VK -> Prop:=fun x lo hi H Q => ∃ a xs,x = .ref a /\ SqL K H a xs /\ ∀ p,H p = none -> Q (.ref p) (upd H p (.lst (cutV xs lo hi)))
theorem sl_list:SlR X (rSlL X.K):=by
  intro pins s σ H x v vl vu lo hi sl Q I rx hs pl pu h
  obtain ⟨a,xs,rfl,hx,q⟩:=h
  cases rx
  obtain ⟨its,r,ht,hz⟩:=I.list hx
  have hlen:=r.length
  refine ⟨"list",_,slot_list_getitem.lookup,ht.isList.typeIs,?_⟩
  refine wpAny_getItem_list_slice ht.isList hs pl pu .none (by simp) ?_ (by rw [List.size_toArray] <;> omega)
  rw [slicePick_cut,← hlen]
  refine ⟨.ref s.heap.objs.size,_,I.laid (t':=s.toks) (o:=.lst (cutV xs lo hi)) (fun b ob q => Heap.get?_push_of_some _ q) (Nat.le_refl _) ?_,rfl,q _ (I.hok.fresh (Nat.le_refl _))⟩
  exact ⟨Nat.le_trans (cutV_length xs lo hi) hz,_,0,(r.drop (HT.sIx xs.length 0 lo)).take (HT.sIx xs.length xs.length hi - HT.sIx xs.length 0 lo),Heap.get?_push_size _ rfl⟩
noncomputable def flatV:V -> Bool
  | .non => true
  | .bl _ => true
  | .int _ => true
  | .str _ => true
  | _ => false
noncomputable def eqV:V -> V -> Bool
  | .non,.non => true
  | .bl a,.bl b => a == b
  | .bl a,.int b => (if a then 1 else 0) == b
  | .int a,.bl b => a == (if b then 1 else 0)
  | .int a,.int b => a == b
  | .str a,.str b => a == b
  | _,_ => false
theorem eqAt_V {A:Around} {s:Shared} {y x:V} {u v:Value} (ry:RelV y u) (rx:RelV x v) (fy:flatV y = true) (fx:flatV x = true):SeqAt.EqAt A s u v (eqV y x):=by
  cases y with
  | non =>
    cases ry
    cases x with
    | non => cases rx; exact SeqAt.EqAt.same _
    | bl b => cases rx; exact SeqAt.EqAt.none_bool b
    | int b => obtain ⟨t,rfl⟩:=rx; exact SeqAt.EqAt.none_int b t
    | str b => obtain ⟨t,rfl⟩:=rx; exact SeqAt.EqAt.none_str b t
    | _ => exact absurd (show false = true from fx) Bool.false_ne_true
  | bl a =>
    cases ry
    cases x with
    | non => cases rx; exact SeqAt.EqAt.bool_none a
    | bl b => cases rx; exact SeqAt.EqAt.bool_bool a b
    | int b => obtain ⟨t,rfl⟩:=rx; exact SeqAt.EqAt.bool_int a b t
    | str b => obtain ⟨t,rfl⟩:=rx; exact SeqAt.EqAt.bool_str a b t
    | _ => exact absurd (show false = true from fx) Bool.false_ne_true
  | int a =>
    obtain ⟨t',rfl⟩:=ry
    cases x with
    | non => cases rx; exact SeqAt.EqAt.int_none a t'
    | bl b => cases rx; exact SeqAt.EqAt.int_bool a t' b
    | int b => obtain ⟨t,rfl⟩:=rx; exact SeqAt.EqAt.int_int a t' b t
    | str b => obtain ⟨t,rfl⟩:=rx; exact SeqAt.EqAt.int_str a t' b t
    | _ => exact absurd (show false = true from fx) Bool.false_ne_true
  | str a =>
    obtain ⟨t',rfl⟩:=ry
    cases x with
    | non => cases rx; exact SeqAt.EqAt.str_none a t'
    | bl b => cases rx; exact SeqAt.EqAt.str_bool a t' b
    | int b => obtain ⟨t,rfl⟩:=rx; exact SeqAt.EqAt.str_int a t' b t
    | str b => obtain ⟨t,rfl⟩:=rx; exact SeqAt.EqAt.str_str a t' b t
    | _ => exact absurd (show false = true from fx) Bool.false_ne_true
  | _ => exact absurd (show false = true from fy) Bool.false_ne_true
noncomputable def eqU (x:V) (u:Value):Bool:=match u with
  | .none => eqV .non x
  | .bool b => eqV (.bl b) x
  | .int i _ => eqV (.int i) x
  | .str z _ => eqV (.str z) x
  | _ => false
theorem eqU_of {x y:V} {u:Value} (r:RelV y u) (f:flatV y = true):eqU x u = eqV y x:=by
  cases y with
  | non => cases r; rfl
  | bl b => cases r; rfl
  | int i => obtain ⟨t,rfl⟩:=r; rfl
  | str z => obtain ⟨t,rfl⟩:=r; rfl
  | _ => exact absurd (show false = true from f) Bool.false_ne_true
theorem any_eqU {x:V}:∀ {xs:List V} {us:List Value},Vals xs us -> xs.all flatV = true -> us.any (eqU x) = xs.any fun y => eqV y x
  | _,_,.nil,_ => rfl
  | y :: xs,u :: us,.cons r t,f => by
    rw [List.all_cons,Bool.and_eq_true] at f
    rw [List.any_cons,List.any_cons,eqU_of r f.1,any_eqU t f.2]
theorem mem_eqAt {A:Around} {s:Shared} {x:V} {v:Value} (rx:RelV x v) (fx:flatV x = true):∀ {xs:List V} {us:List Value},Vals xs us -> xs.all flatV = true -> ∀ u ∈ us,SeqAt.EqAt A s u v (eqU x u)
  | _,_,.nil,_ => fun u hu => by cases hu
  | y :: xs,u :: us,.cons r t,f => fun u' hu => by
    rw [List.all_cons,Bool.and_eq_true] at f
    rcases List.mem_cons.mp hu with rfl | hu
    . rw [eqU_of r f.1]; exact eqAt_V r rx f.1 fx
    . exact mem_eqAt rx fx t f.2 u' hu
noncomputable def inV (x:V) (xs:List V):Bool:=xs.any fun y => eqV y x
noncomputable def rIn (K:PySem.W.Frag) (neg:Bool):R2:=fun x y H Q => ∃ p xs,y = .ref p /\ (SqL K H p xs ∨ SqT K H p xs) /\ flatV x = true /\ xs.all flatV = true /\ Q (.bl (if neg then !inV x xs else inV x xs)) H
theorem op_notIn_seq:OpR X (compareOp .NotIn) (rIn X.K true):=by
  intro pins s σ H x y v u Q I rx ry h
  obtain ⟨p,xs,rfl,hq,fx,fs,q⟩:=h
  cases ry
  rcases hq with hq | hq
  . obtain ⟨its,r,pl,hz⟩:=I.list hq
    refine SeqAt.notIn_listAt (eqU x) pl.isList (fun w hw => mem_eqAt rx fx r fs w (by simpa using hw)) ⟨.bl _,H,I,rfl,?_⟩
    rw [show its.toArray.any (eqU x) = its.any (eqU x) by simp,any_eqU r fs]
    exact q
  . obtain ⟨its,r,pl,hz⟩:=I.tuple hq
    refine SeqAt.notIn_tupleAt (eqU x) pl (fun w hw => mem_eqAt rx fx r fs w (by simpa using hw)) ⟨.bl _,H,I,rfl,?_⟩
    rw [show its.toArray.any (eqU x) = its.any (eqU x) by simp,any_eqU r fs]
    exact q
theorem CallR.or {f:Value} {r r':List V -> Hp -> VK -> Prop} (h:CallR X f r) (h':CallR X f r'):CallR X f (fun xs H Q => r xs H Q ∨ r' xs H Q):=by
  intro pins s σ H xs us Q I rs q
  rcases q with q | q
  . exact h pins s σ H xs us Q I rs q
  . exact h' pins s σ H xs us Q I rs q
theorem call_list_of:CallR X (.type "list") (fun xs H Q => ∃ p ys,xs = [.ref p] /\ (SqL X.K H p ys ∨ SqT X.K H p ys) /\ ∀ l,H l = none -> Q (.ref l) (upd H l (.lst ys))):=by
  intro pins s σ H xs us Q I r h
  obtain ⟨p,ys,rfl,hq,q⟩:=h
  obtain ⟨u,rfl,rx⟩:=vals1 r
  cases rx
  have fin:∀ (its:List Value),Vals ys its -> ys.length <= sizeLine -> ∀ (h':Heap) (c':Nat),(∀ b o',s.heap.get? b = some o' -> h'.get? b = some o') ->
      h'.get? s.heap.objs.size = some { cls:=.type "list",dict:=none,data:=.seq its.toArray c',slots:=#[] } -> EP X pins σ Q (.ref s.heap.objs.size) { s with heap:=h' }:=fun its r' hz h' c' kp e =>
    ⟨.ref s.heap.objs.size,_,I.laid (t':=s.toks) kp (Nat.le_refl _) (show ObjOk X.prog X.w _ h' _ (.lst ys) from ⟨hz,its,c',r',e⟩),rfl,q _ (I.hok.fresh (Nat.le_refl _))⟩
  rcases hq with hq | hq
  . obtain ⟨its,r',pl,hz⟩:=I.list hq
    have hlen:=r'.length
    obtain ⟨o,ho,hc,n,hd⟩:=pl.isList
    exact call_list_seq p (.inl rfl) ho hc hd (fun h' c' kp e => fin its r' hz h' c' kp e) (by simp only [List.size_toArray] <;> omega)
  . obtain ⟨its,r',pl,hz⟩:=I.tuple hq
    have hlen:=r'.length
    obtain ⟨o,ho,hc,n,hd⟩:=pl
    exact call_list_seq p (.inr rfl) ho hc hd (fun h' c' kp e => fin its r' hz h' c' kp e) (by simp only [List.size_toArray] <;> omega)
theorem call_tuple_of:CallR X (.type "tuple") (fun xs H Q => ∃ p ys,xs = [.ref p] /\ ((SqL X.K H p ys /\ ∀ l,H l = none -> Q (.ref l) (upd H l (.tup ys))) ∨ (SqT X.K H p ys /\ Q (.ref p) H))):=by
  intro pins s σ H xs us Q I r h
  obtain ⟨p,ys,rfl,h⟩:=h
  obtain ⟨u,rfl,rx⟩:=vals1 r
  cases rx
  rcases h with ⟨hq,q⟩ | ⟨hq,q⟩
  . obtain ⟨its,r',pl,hz⟩:=I.list hq
    have hlen:=r'.length
    refine call_tuple_list pl.isList (fun h' kp => ?_) (by simp only [List.size_toArray] <;> omega)
    have I1:Inv X pins σ H { s with heap:=h' }:=I.kept (t':=s.toks) kp
    have I2:Inv X pins σ (upd H h'.objs.size (.tup ys)) { s with heap:=h'.push { cls:=.type "tuple",data:=.seq its.toArray } } :=
      I1.laid (t':=s.toks) (fun b o e => Heap.get?_push_of_some _ e) (Nat.le_refl _) (show ObjOk X.prog X.w _ _ _ (.tup ys) from ⟨⟨hz,_,Heap.get?_push_size _ rfl,rfl⟩,its,r',IsTup.new _ _⟩)
    exact ⟨.ref h'.objs.size,_,I2,rfl,q _ (I1.hok.fresh (Nat.le_refl _))⟩
  . obtain ⟨its,r',pl,hz⟩:=I.tuple hq
    exact call_tuple_same pl ⟨.ref p,H,I,rfl,q⟩
noncomputable def tyV (K:PySem.W.Frag) (T:String) (x:V) (H:Hp):Prop:=match x with
  | .str _ => T = "str"
  | .int _ => T = "int"
  | .ref p => (T = "list" /\ ∃ xs,SqL K H p xs) ∨ (T = "tuple" /\ ∃ o,K.lookup p = some o /\ o.cls = .type "tuple" /\ o.dict = none) ∨
      (T = "dict" /\ ((∃ kvs,H p = some (.dK kvs)) ∨ ∃ kvs,H p = some (.dT kvs))) ∨ (T = "set" /\ ∃ S n,H p = some (.set S n))
  | _ => False
theorem tyV_is {pins:List (Addr×Obj)} {σ:St} {H:Hp} {s:Shared} {T:String} {x:V} {v:Value} (I:Inv X pins σ H s) (r:RelV x v) (ty:tyV X.K T x H) :
    s.TypeIs v T /\ ∀ a,v = .ref a -> ∃ ob,s.heap.get? a = some ob /\ ob.dict = none:=by
  cases x with
  | str z =>
    obtain ⟨t,rfl⟩:=r
    cases (show T = "str" from ty)
    exact ⟨typeIs_str s z t,fun _ e => nomatch e⟩
  | int i =>
    obtain ⟨t,rfl⟩:=r
    cases (show T = "int" from ty)
    exact ⟨typeIs_int s i t,fun _ e => nomatch e⟩
  | ref p =>
    cases r
    rcases ty with ⟨rfl,xs,hq⟩ | ⟨rfl,o,hk,hc,hd⟩ | ⟨rfl,hk⟩ | ⟨rfl,S,n,hk⟩
    . obtain ⟨its,_,pl,_⟩:=I.list hq
      refine ⟨pl.isList.typeIs,fun a e => ?_⟩
      cases e
      obtain ⟨o,n,e,c,hd,_⟩:=pl
      exact ⟨o,e,hd⟩
    . refine ⟨⟨o,I.kIn p o hk,hc⟩,fun a e => ?_⟩
      cases e
      exact ⟨o,I.kIn _ o hk,hd⟩
    . have z:∃ o,s.heap.get? p = some o /\ o.ExactDict:=by
        rcases hk with ⟨kvs,hk⟩ | ⟨kvs,hk⟩
        . obtain ⟨_,_,_,_,o,_,_,e,ex,_⟩:=I.hok p _ hk
          exact ⟨o,e,ex⟩
        . obtain ⟨_,_,_,_,o,_,_,e,ex,_⟩:=I.hok p _ hk
          exact ⟨o,e,ex⟩
      obtain ⟨o,e,ex⟩:=z
      refine ⟨⟨o,e,ex.1⟩,fun a e2 => ?_⟩
      cases e2
      exact ⟨o,e,ex.2.1⟩
    . obtain ⟨o,_,_,_,e,ex,_⟩:=I.hok p _ hk
      refine ⟨⟨o,e,ex.1⟩,fun a e2 => ?_⟩
      cases e2
      exact ⟨o,e,ex.2.1⟩
  | _ => exact False.elim ty
noncomputable def tBM0 (K:PySem.W.Frag) (T:String) (r:V -> List V -> Hp -> VK -> Prop) (to:TE):TE:=fun σ H Q => to σ H fun x H1 => tyV K T x H1 /\ r x [] H1 Q
noncomputable def tBM (K:PySem.W.Frag) (T:String) (r:V -> List V -> Hp -> VK -> Prop) (to:TE) (t:TA):TE:=fun σ H Q => to σ H fun x H1 => tyV K T x H1 /\ t σ H1 fun xs H2 => r x xs H2 Q
variable {o e:Expr} {es:List Expr} {to:TE} {t:TA} {name:Str} {apos cpos:Pos} {T id:String} {r:V -> List V -> Hp -> VK -> Prop}
theorem pe_bm (pa:PlainAttrs T) (slot:Slot T name id) (hty:typeOf (.builtin id) = pure (.type "method_descriptor")) (hm:MtR X id r) (ho:PE X o to) (ha:PA X (e :: es) t)
    (hbase:attributeBase o name X.env (eval o X.env) = eval o X.env:=by rfl)
    (hfew:((backTo cpos (starEach (e :: es) X.env)).all (fun x => !x.1) && (backToKw cpos (keywordEach [] X.env)).all (fun x => x.1.isSome)
      && decide ((e :: es).length + ([]:List Keyword).length + (if ([]:List Keyword).isEmpty then 0 else 1) < 30)) = true:=by rfl)
    (hline:(apos.endLine == cpos.line) = true:=by rfl) (hs:starEach (e :: es) X.env = (false,eval e X.env) :: starEach es X.env:=by rfl) (hplain:(backTo cpos (starEach es X.env)).any (·.1) = false:=by rfl) :
    PE X (.Call (.Attribute o name apos) (e :: es) [] cpos) (tBM X.K T r to t):=by
  intro pins s σ H Q I h
  refine wpAny_Call_method_late hbase hfew hline rfl (thn (ho pins s σ H _ I h) fun v s1 ⟨x,H1,I1,r1,ty,q1⟩ => ?_)
  obtain ⟨h1,h2⟩:=tyV_is I1 r1 ty
  refine ⟨T,id,pa,slot,hty,h1,h2,?_⟩
  have hA:=ha cpos pins s1 σ H1 _ I1 q1
  rw [hs] at hA ⊢
  refine Calls.callWith_builtin (by show (false || (backTo cpos (starEach es X.env)).any (·.1)) = false; rw [hplain] <;> rfl) (Calls.evalArgs_plain ?_)
  exact thn hA fun us s2 ⟨vs,H2,I2,r2,q2⟩ => hm pins s2 σ H2 x vs v us Q I2 r1 r2 q2
/- xs.append(e),list.index on a module's tuple .. are MtR facts of 06m -/
end
end L2
namespace L2
open PySem PySem.Spec PyProof.Rows
noncomputable def MtM (X:Cx) (id:String) (r:V -> List V -> Hp -> VK -> Prop):Prop :=
  ∀ (pins:List (Addr×Obj)) (s:Shared) (σ:St) (H:Hp) (x:V) (xs:List V) (v:Value) (us:List Value) (Q:VK),Inv X pins σ H s -> RelV x v -> Vals xs us -> r x xs H Q ->
    wpAny (model X.prog X.w) X.A (call (.builtin id) (v :: us)) (EP X pins σ Q) X.xe s
theorem Vals.one:∀ {x:V} {us:List Value},Vals [x] us -> ∃ u,us = [u] /\ RelV x u
 :=fun h => by cases h with | cons r h => cases h; exact ⟨_,rfl,r⟩
theorem Vals.two:∀ {x y:V} {us:List Value},Vals [x,y] us -> ∃ u v,us = [u,v] /\ RelV x u /\ RelV y v
 :=fun h => by cases h with | cons r h => cases h with | cons q h => cases h; exact ⟨_,_,rfl,r,q⟩
theorem Vals.zero:∀ {us:List Value},Vals [] us -> us = []
  | _,.nil => rfl
theorem Vals.eraseIdx:∀ {xs:List V} {us:List Value} (i:Nat),Vals xs us -> Vals (xs.eraseIdx i) (us.eraseIdx i)
  | _,_,_,.nil => .nil
  | _,_,0,.cons _ t => t
  | _,_,i + 1,.cons r t => .cons r (Vals.eraseIdx i t)
theorem Vals.reverse {xs:List V} {us:List Value} (h:Vals xs us):Vals xs.reverse us.reverse:=by
  induction h with
  | nil => exact .nil
  | cons r t ih => rw [List.reverse_cons,List.reverse_cons]; exact Vals.append ih (.cons r .nil)
section
variable {X:Cx} {pins:List (Addr×Obj)} {σ:St} {H:Hp} {s:Shared} {l b:Addr} {xs ys zs:List V}
theorem Inv.lset {its its':List Value} {n:Nat} {f:Array Value -> Array Value} {t':Nat} (I:Inv X pins σ H s) (hH:H l = some (.lst xs))
    (e:s.heap.get? l = some { cls:=.type "list",data:=.seq its.toArray n }) (hf:f its.toArray = its'.toArray) (hv:Vals ys its') (hz:ys.length <= sizeLine) :
    Inv X pins σ (upd H l (.lst ys)) { s with heap:=s.heap.update l (Obj.mapSeq f),toks:=t' }:=by
  have q:=PySem.IsL.update e f
  rw [hf] at q
  refine I.write (x:=l) (e:=l) (by rw [hH]; exact trivial) (.inl rfl) (fun b' u hb hu => (Heap.get?_update_other s.heap (Obj.mapSeq f) (Ne.symm hb)).trans hu) ⟨_,q⟩ ?_
  exact ⟨hz,its',_,hv,q⟩
theorem Inv.lnew {its:List Value} {t':Nat} (I:Inv X pins σ H s) (hv:Vals ys its) (hz:ys.length <= sizeLine) :
    Inv X pins σ (upd H s.heap.objs.size (.lst ys)) { s with heap:=s.heap.push { cls:=.type "list",data:=.seq its.toArray },toks:=t' } :=
  I.laid (fun _ _ q => Heap.get?_push_of_some _ q) (Nat.le_refl _) ⟨hz,its,0,hv,Heap.get?_push_size _ rfl⟩
theorem Inv.fresh (I:Inv X pins σ H s):H s.heap.objs.size = none:=I.hok.fresh (Nat.le_refl _)
theorem Inv.lstM (I:Inv X pins σ H s) (hH:H l = some (.lst xs)):xs.length <= sizeLine /\ ∃ (its:List Value) (n:Nat),Vals xs its /\ xs.length = its.length /\ s.heap.get? l = some { cls:=.type "list",data:=.seq its.toArray n }:=by
  obtain ⟨z,its,n,r,e⟩:=I.hok l _ hH
  exact ⟨z,its,n,r,r.length,e⟩
theorem notLongL {n:Nat} (h:n <= sizeLine):Builtin.List.listTooLong n = false:=by
  unfold Builtin.List.listTooLong
  exact decide_eq_false (by omega)
end
section
variable {X:Cx}
noncomputable def rAppend:V -> List V -> Hp -> VK -> Prop:=fun x vs H Q => ∃ l xs y,x = .ref l /\ vs = [y] /\ H l = some (.lst xs) /\ xs.length < sizeLine /\ Q .non (upd H l (.lst (xs ++ [y])))
theorem mt_append:MtM X "list.append" rAppend:=by
  intro pins s σ H x vs v us Q I rx rv h
  obtain ⟨l,xs,y,rfl,rfl,hH,hz,q⟩:=h
  cases rx
  obtain ⟨u,rfl,ru⟩:=rv.one
  obtain ⟨z,its,n,r,hl,e⟩:=I.lstM hH
  refine call_meets F.slot_list_append ⟨_,e,rfl⟩ F.entry_list_append (F.args_list_append_2 _ _) (PySem.list_append l its.toArray n u (by rw [List.size_toArray]; omega)) ⟨e,?_⟩
  refine ⟨.non,_,I.lset (its':=its ++ [u]) hH e (by simp) (r.append (.cons ru .nil)) ?_,rfl,q⟩
  rw [List.length_append,List.length_singleton]
  omega
noncomputable def rExtend:V -> List V -> Hp -> VK -> Prop:=fun x vs H Q => ∃ l b xs zs,x = .ref l /\ vs = [.ref b] /\ H l = some (.lst xs) /\ H b = some (.lst zs) /\ xs.length + zs.length <= sizeLine /\ Q .non (upd H l (.lst (xs ++ zs)))
theorem mt_extend:MtM X "list.extend" rExtend:=by
  intro pins s σ H x vs v us Q I rx rv h
  obtain ⟨l,b,xs,zs,rfl,rfl,hH,hB,hz,q⟩:=h
  cases rx
  obtain ⟨u,rfl,ru⟩:=rv.one
  cases ru
  obtain ⟨z,its,n,r,hl,e⟩:=I.lstM hH
  obtain ⟨z2,its2,n2,r2,hl2,e2⟩:=I.lstM hB
  have hsz:its.toArray.size + its2.toArray.size <= sizeLine:=by rw [List.size_toArray,List.size_toArray]; omega
  have hlong:¬ (!its.toArray.isEmpty && Builtin.List.listTooLong (its.toArray.size + its2.toArray.size)) = true:=by
    rw [notLongL hsz,Bool.and_false]
    exact Bool.false_ne_true
  refine call_meets F.slot_list_extend ⟨_,e,rfl⟩ F.entry_list_extend (F.args_list_extend_2 _ _)
    (AutoSeq1.list_extend_list_list_0 l its.toArray n b its2.toArray n2 hlong (by rw [List.size_toArray]; omega) (by omega)) ⟨e,e2,?_⟩
  refine ⟨.non,_,I.lset (its':=its ++ its2) hH e (by simp) (r.append r2) ?_,rfl,q⟩
  rw [List.length_append]
  omega
noncomputable def rCat:R2:=fun x y H Q => ∃ l b xs zs,x = .ref l /\ y = .ref b /\ H l = some (.lst xs) /\ H b = some (.lst zs) /\ xs.length + zs.length <= sizeLine /\ ∀ p,H p = none -> Q (.ref p) (upd H p (.lst (xs ++ zs)))
theorem op_cat:OpR X (binaryOp .Add) rCat:=by
  intro pins s σ H x y v u Q I rx ry h
  obtain ⟨l,b,xs,zs,rfl,rfl,hH,hB,hz,q⟩:=h
  cases rx
  cases ry
  obtain ⟨z,its,n,r,hl,e⟩:=I.lstM hH
  obtain ⟨z2,its2,n2,r2,hl2,e2⟩:=I.lstM hB
  refine PySem.P.add_list e e2 ?_ (by rw [List.size_toArray,List.size_toArray]; omega)
  have ea:its.toArray ++ its2.toArray = (its ++ its2).toArray:=by simp
  rw [ea]
  exact ⟨.ref _,_,I.lnew (t':=s.toks) (r.append r2) (by rw [List.length_append]; omega),rfl,q _ I.fresh⟩
end
section
variable {prog:Program} {w:World} {A:Around} {E:Value -> Shared -> Prop} {s:Shared}
end
section
variable {X:Cx}
end
end L2
namespace Att
open PySem PySem.W PySem.Calls PyProof.Rows
theorem ints_of_wellAll {P:Params} {h:Heap}:∀ (ns:List Int) (vs:List Value),WellAll P h vs (ns.map WData.int) -> IntsAre vs ns:=by
  intro ns
  induction ns with
  | nil =>
    intro vs w
    rw [List.map_nil] at w
    cases w
    exact .nil
  | cons n ns ih =>
    intro vs w
    rw [List.map_cons] at w
    cases w with
    | cons a b =>
      cases a
      exact .cons _ _ (ih _ b)
theorem script_of {l:OpenLaw} {n:Nat} (hn:l.most = some n) {P:Params} {h:Heap} {args:List WData} {vals:List Value}
    (hpre:l.row.toRowW.claim.pre args = true) (hwl:WellAll P h vals args) :
    ∃ a vs ns,vals = [Value.ref a] /\ args = [WData.list (ns.map WData.int)] /\ h.get? a = some { cls:=.type "list",data:=.seq vs.toArray } /\ IntsAre vs ns /\ ns.length <= n:=by
  have hsh:WShape.hasAll [] args [.list .int] = true:=(pre_splitW hpre).1
  have hc:l.pre.holds [] { args:=args } = true:=(pre_splitW hpre).2
  obtain ⟨d,r,rfl,h1,h2⟩:=hasAllW_cons hsh
  obtain rfl:=hasAllW_nil h2
  obtain ⟨xs,rfl,h3⟩:=hasW_list h1
  obtain ⟨ns,rfl⟩:=items_int h3
  have hlen:ns.length <= n:=by
    unfold OpenLaw.pre at hc
    have h4:(WTm.not (.lt (.lit (.int (n:Int))) (.len (.arg 0)))).holds [] { args:=[.list (ns.map .int)] } = true:=by
      have h4:=(holds_andW hc).1
      rw [hn] at h4
      exact h4
    have h5:=condW_of h4 (w_not (w_lt w_lit (w_len_list (w_arg rfl))))
    rw [List.length_map] at h5
    refine Nat.le_of_not_lt fun q => ?_
    have q':(n:Int) < ((ns.length:Nat):Int):=by omega
    first
      | (rw [decide_eq_true q'] at h5; exact absurd h5 (by decide))
      | (simp at h5; omega)
  cases hwl with
  | cons w1 w2 =>
    cases w2
    cases w1 with
    | list ho hall => exact ⟨_,_,ns,rfl,rfl,ho,ints_of_wellAll ns _ hall,hlen⟩
theorem post_true (l:OpenLaw) (args:List WData):l.row.toRowW.claim.post args (.bool true) args = true :=
  postW_of (r:=l.row.toRowW) (X:=(true == true))
    (show WShape.has [] (.bool true) .bool = true by first | rfl | decide | simp [WShape.has,WShape.arms,WShape.armsAll])
    (show (WTm.eq .res (.lit (.bool true))).value [] { args:=args,res:=some (.bool true),after:=args } = some (.bool (true == true)) from w_eq_bool (w_res rfl) w_lit) rfl
theorem attach_call {l:OpenLaw} {n:Nat} {q:Program} {loose:List Str} {XP:(Str -> Option Value) -> Heap -> Prop} {YP:World -> Heap -> Prop} {d:DefRec}
    (hn:l.most = some n) (hdf:d.params.defaults = [])
    (call:∀ (w:World) (s₀ s₁:Shared) (mg mb:Str -> Option Value) (fa:Addr) (o:Obj) (pm cd doc:Value) (a:Addr) (vs:List Value) (ns:List Int),
      Ground q loose [] XP w s₀ mg mb s₁.heap -> YP w s₁.heap ->
      s₁.heap.get? fa = some o -> o.data = .func (docDef d.name d.params d.body d.scope pm cd doc) -> s₁.heap.CodeRec cd d.name -> mg d.name = some (.ref fa) ->
      s₁.heap.get? a = some { cls:=.type "list",data:=.seq vs.toArray } -> IntsAre vs ns -> ns.length <= n -> s₁.gens = #[] ->
      codeAny (model l.prog w) callerA (.call (.ref fa) ⟨[.ref a],[]⟩) (fun r s' => r = .ok (.ret (.bool true)) /\ OldK s₁.heap s'.heap /\ s'.os = s₁.os /\ AllBare s'.gens) s₁) :
    WalkO q loose XP YP l.row.toRowW d [] (fun f vs => PySem.call f vs):=by
  intro w s₀ s₁ mg mb G Y fa o pm cd doc dV kV ho hd hcd hD hmg hg args vals as hpre hlay hrd hwl hlo
  obtain rfl:dV = .none:=Dflts.none hD hdf
  obtain rfl:kV = .none:=Dflts.noKw hD
  obtain ⟨a,vs,ns,rfl,rfl,hobj,hints,hlen⟩:=script_of hn hpre hwl
  refine enter_call (codeAny_mono (call w s₀ s₁ mg mb fa o pm cd doc a vs ns G Y ho (fd_plain hd) hcd hmg hobj hints hlen hg) fun r s' hq => ?_)
  obtain ⟨rfl,h2,h3,h4⟩:=hq
  exact ⟨.inl ⟨.bool true,.bool true,[],rfl,fun _ => rfl,.bool true,post_true l _,fun _ => ⟨List.Pairwise.nil,fun _ hm => (nomatch hm)⟩⟩,h2,h3,h4⟩
section
variable {prog:Program} {w:World} {A:Around} {E:Value -> Shared -> Prop} {s:Shared} {K:Frag}
end
end Att
namespace L2
open PySem PySem.Spec PyProof.Rows
theorem vals_ints:∀ {vs:List Value} {ns:List Int},IntsAre vs ns -> Vals (ns.map V.int) vs
  | _,_,.nil => .nil
  | _,_,.cons n t h => .cons ⟨t,rfl⟩ (vals_ints h)
noncomputable def Only (H:Hp):Prop:=∀ b,H b = none ∨ ∃ o xs,H b = some (.frz o (.lst xs))
theorem law_call {P:Program} {w:World} {K:PySem.W.Frag} {mg mb:Str -> Option Value} {CX:CXT} {k:Nat} {fa a:Addr} {fd:FuncData} {x:Str} {sp:Sp} {s₁:Shared} {vs:List Value} {ns:List Int}
    (KX:K.In s₁.heap) (hns:s₁.heap.Ns mainGlobals mg) (hb:s₁.heap.Ns builtinsNs mb) (hbb:∀ x:Str,x ≠ "__name__" -> mb x = bootBuiltins x) (hlim:s₁.heap.NoLimit) (hg:s₁.gens = #[])
    (ha:s₁.heap.get? a = some { cls:=.type "list",data:=.seq vs.toArray }) (hi:IntsAre vs ns) (hl:ns.length <= sizeLine) (hr:Room k callerA)
    (F:∀ base:Heap,K.In base -> base.Ns mainGlobals mg -> FnOk P w K mg base CX k fa fd [x] sp) (hbind:∀ (s:Shared) (u:Value),BindsTo s fd ⟨[u],[]⟩ [(x,u)])
    (hsp:∀ H:Hp,Only H -> SqL K H a (ns.map V.int) -> sp [.ref a] H (fun v _ => v = .bl true) fun _ _ _ => False)
    (hCX:∀ H e s',CX [] H s₁ (fun _ _ _ => False) e s' -> False) :
    codeAny (model P w) callerA (.call (.ref fa) ⟨[.ref a],[]⟩) (fun r s' => r = .ok (.ret (.bool true)) /\ OldK s₁.heap s'.heap /\ s'.os = s₁.os /\ AllBare s'.gens) s₁:=by
  have rv:=vals_ints hi
  have lenV:=hi.length
  -- from an abstract heap in which nothing but the script may be tracked
  have core:∀ H:Hp,Only H -> SqL K H a (ns.map V.int) -> HOk P w H s₁.heap -> (∀ b,H b ≠ none -> b = a) -> (H a ≠ none -> K.lookup a = none) ->
      codeAny (model P w) callerA (.call (.ref fa) ⟨[.ref a],[]⟩) (fun r s' => r = .ok (.ret (.bool true)) /\ OldK s₁.heap s'.heap /\ s'.os = s₁.os /\ AllBare s'.gens) s₁:=by
    intro H hO hS hok hA hK
    have base_of:∀ {b:Addr} {o:Obj},s₁.heap.get? b = some o -> H b = none -> (hidT s₁.heap H).get? b = some o:=fun e n => hidT_get e n
    have noA:∀ {b:Addr} {o:Obj} {es:Array DictEntry} {ep:Nat},s₁.heap.get? b = some o -> o.data = .dict es ep -> H b = none:=fun {b o es ep} e d => by
      cases q:H b with
      | none => rfl
      | some u =>
        have e':b = a:=hA b (by rw [q]; simp)
        subst e'
        rw [ha] at e; cases e
        have d':Data.seq vs.toArray _ = Data.dict es ep:=d
        cases d'
    have nsK:∀ {b:Addr} {m:Str -> Option Value},s₁.heap.Ns b m -> (hidT s₁.heap H).Ns b m:=fun {b m} ⟨o,es,ep,e,d,r⟩ => ⟨o,es,ep,base_of e (noA e d),d,r⟩
    have hKb:K.In (hidT s₁.heap H):=fun b o e => base_of (KX b o e) (by
      cases q:H b with
      | none => rfl
      | some u =>
        have e':b = a:=hA b (by rw [q]; simp)
        subst e'
        rw [hK (by rw [q]; simp)] at e; cases e)
    have hM:Mod K mg (hidT s₁.heap H):=⟨hKb,nsK hns,⟨mb,nsK hb,hbb⟩,let ⟨mc,h1,h2⟩:=hlim; ⟨mc,nsK h1,h2⟩⟩
    have e0:Env0 P w K mg (hidT s₁.heap H) callerA [] s₁ H:=⟨rfl,hM,fun b o e => of_hidT e,Nat.le_of_eq (hidT_size _ _),trivial,fun b hb => absurd (show b ∈ ([]:List Addr) from hb) (by simp),hok,.of_eq hg⟩
    refine codeAny_mono ((F _ hKb (nsK hns)).run callerA [] s₁ H ⟨[.ref a],[]⟩ [.ref a] [.ref a] _ _ hr e0 (hbind s₁ (.ref a)) (.cons rfl .nil) (hsp H hO hS)) fun r s' h => ?_
    cases r with
    | error e => exact (hCX H e s' h).elim
    | ok fl =>
      cases fl with
      | next => exact False.elim h
      | brk => exact False.elim h
      | cont => exact False.elim h
      | ret u =>
        obtain ⟨v,H',os,bare,un,hok',r',q⟩:=h
        have q':v = .bl true:=q
        subst q'
        obtain rfl:u = Value.bool true:=r'
        refine ⟨rfl,OldK.of_keep fun b o e => ?_,os,bare⟩
        cases q:H b with
        | none => exact un.keep b o e q (by intro z; exact absurd (show b ∈ ([]:List Addr) from z) (by simp)) (by simp)
        | some u =>
          rcases hO b with z | ⟨ob,xs,z⟩
          . rw [q] at z; cases z
          . have z2:=un.frzs b ob _ z
            obtain ⟨e1,_⟩:=hok b _ z
            obtain ⟨e2,_⟩:=hok' b _ z2
            rw [e] at e1; cases e1
            exact e2
  cases hk:K.lookup a with
  | some o =>
    -- the script is one of the module's own objects
    have e:=KX a o hk
    rw [ha] at e
    cases e
    refine core (fun _ => none) (fun _ => .inl rfl) (.inr ⟨_,vs.toArray,_,hk,rfl,rfl,rfl,by rw [List.size_toArray,lenV]; exact hl,by simpa using rv⟩) (fun b u z => by have z':(none:Option HO) = some u:=z; cases z') (fun b z => absurd rfl z) fun z => absurd rfl z
  | none =>
    refine core (fun b => if b = a then some (.frz { cls:=.type "list",data:=.seq vs.toArray } (.lst (ns.map V.int))) else none) (fun b => ?_) (.inl (.inr ⟨{ cls:=.type "list",data:=.seq vs.toArray },if_pos rfl⟩)) (fun b u z => ?_) (fun b z => ?_) fun _ => hk
    . by_cases hb:b = a
      . exact .inr ⟨_,_,if_pos hb⟩
      . exact .inl (if_neg hb)
    . by_cases hb:b = a
      . have z':=(if_pos hb).symm.trans z
        cases z'
        subst hb
        exact ⟨ha,by rw [List.length_map]; exact hl,vs,_,rv,ha⟩
      . have z':=(if_neg hb).symm.trans z
        cases z'
    . by_cases hb:b = a
      . exact hb
      . exact absurd (if_neg hb) z
end L2
namespace L2
open PySem PySem.Spec PyProof.Rows
theorem walk_of {l:PySem.W.OpenLaw} {n k:Nat} {q:Program} {loose:List Str} {XP:(Str -> Option Value) -> Heap -> Prop} {YP:World -> Heap -> Prop} {d:DefRec} {K:Params -> PySem.W.Frag} {CX:World -> CXT} {sp:World -> Sp} {x:Str}
    (hn:l.most = some n) (hn2:n <= sizeLine) (hdf:d.params.defaults = []) (hr:Room k callerA)
    (hY:∀ (w:World) (h:Heap),YP w h -> (K w.params).In h)
    (F:∀ (w:World) (mg:Str -> Option Value) (fa:Addr) (h:Heap),(K w.params).In h -> h.Ns mainGlobals mg -> mg d.name = some (.ref fa) ->
      ∃ fd:FuncData,(∀ (s:Shared) (u:Value),BindsTo s fd ⟨[u],[]⟩ [(x,u)]) /\
        ∀ base:Heap,(K w.params).In base -> base.Ns mainGlobals mg -> FnOk l.prog w (K w.params) mg base (CX w) k fa fd [x] (sp w))
    (hsp:∀ (w:World) (H:Hp) (a:Addr) (ns:List Int),ns.length <= n -> Only H -> SqL (K w.params) H a (ns.map V.int) -> sp w [.ref a] H (fun v _ => v = .bl true) fun _ _ _ => False)
    (hCX:∀ (w:World) (H:Hp) (s:Shared) (e:Value) (s':Shared),CX w [] H s (fun _ _ _ => False) e s' -> False) :
    PySem.W.WalkO q loose XP YP l.row.toRowW d [] (fun f vs => PySem.call f vs):=by
  refine Att.attach_call hn hdf fun w s₀ s₁ mg mb fa o pm cd doc a vs ns G Y ho hd hcd hmg hobj hints hlen hg => ?_
  have KX:=hY w _ Y
  obtain ⟨fd,hb,hF⟩:=F w mg fa _ KX G.T.g hmg
  exact law_call KX G.T.g G.T.b G.T.builtins G.T.nolimit hg hobj hints (Nat.le_trans hlen hn2) hr hF hb (fun H hO hS => hsp w H a ns hlen hO hS) fun H e s' => hCX w H s₁ e s'
end L2
/- THE LAST THEOREM (shape; LID,My.* are yours):
   My.Adr: a structure of the addresses that your layer names (classes,functions); My.Txt K t: a structure (Prop) of the equations over K;
   My.txt_mk:{K} {implicit addresses ..} (e1:nsIn K mainGlobals "law" = some (some (.ref f))) (e2:K.lookup f = some ⟨oc,od,.func (fnOf "law" "law" params body scope dV kV doc pm an cdv ct),sl⟩) (e3:codeIn K cdv "law" = true) ..:∃ t,My.Txt K t
(the tactic k_is has no namespace: write k_is) -/
namespace L2
open PySem PySem.Spec PyProof.Rows
noncomputable def defArgs (s:Stmt):Arguments:=match s with
  | .FunctionDef _ a _ _ _ _ _ _ _ _ => a
  | _ => { posonlyargs:=[],args:=[],vararg:=none,kwonlyargs:=[],kw_defaults:=[],kwarg:=none,defaults:=[] }
noncomputable def defBody (s:Stmt):List Stmt:=match s with
  | .FunctionDef _ _ b _ _ _ _ _ _ _ => b
  | _ => []
noncomputable def defScope (s:Stmt):Scope:=match s with
  | .FunctionDef _ _ _ _ _ _ sc _ _ _ => sc
  | _ => { kind:=.function,names:=[],isGenerator:=false,isCoroutine:=false }
noncomputable abbrev CX0:CXT:=fun _ _ _ _ _ _ => False
noncomputable abbrev E0:XK:=fun _ _ _ => False
theorem pass0 {X:Cx}:Passes CX0 X E0:=fun _ _ _ _ _ _ _ h => h.elim
structure Fun (K:PySem.W.Frag) (x qual:Str) (st:Stmt) (f:Addr) (fd:FuncData):Prop where
  ex:∃ (oc:Value) (od:Option Addr) (kV doc pm:Value) (an:Option Addr) (cdv ct:Value) (osl:Array (Option Value)),
    fd = PySem.W.fnOf x qual (defArgs st) (defBody st) (defScope st) .none kV doc pm an cdv ct /\ K.lookup f = some ⟨oc,od,.func fd,osl⟩ /\ PySem.W.codeIn K cdv qual = true
  kp:PySem.W.keepIn K (.ref f) = true
section
variable {P:Program} {w:World} {K:PySem.W.Frag} {mg:Str -> Option Value} {base:Heap}
theorem Fun.ok {x qual:Str} {st:Stmt} {f:Addr} {fd:FuncData} {N ps:List Str} {k:Nat} {sp:Sp} (F:Fun K x qual st f fd) (S:FnScope N ps (defScope st)) (len:∀ vs H Q E,sp vs H Q E -> vs.length = ps.length)
    (hbody:∀ (cdv:Value) (A:Around) (outer:List Env) (s:Shared) (H:Hp) (vs:List V) (Q:VK) (E:XK),Room k (A.deeper (envOfC qual (defScope st) s.heap.objs.size f cdv)) -> sp vs H Q E ->
      ∃ t,PSs (cxOf CX0 P w K mg base N qual (defScope st) f cdv A outer s H E).nox (defBody st) t /\ t { nx:=fun _ H' => Q .non H',rt:=Q } (start N vs) H):FnOk P w K mg base CX0 (k + 1) f fd ps sp:=by
  obtain ⟨oc,od,kV,doc,pm,an,cdv,ct,osl,rfl,lk,hcd⟩:=F.ex
  refine fn_of lk hcd S len fun A outer s H vs Q E hr hsp => ?_
  obtain ⟨t,h,q⟩:=hbody cdv A outer s H vs Q E hr hsp
  exact ⟨t,h.nox,q⟩
theorem Fun.binds {x qual:Str} {st:Stmt} {f:Addr} {fd:FuncData} {ps:List Str} (F:Fun K x qual st f fd)
    (h:∀ (kV doc pm:Value) (an:Option Addr) (cdv ct:Value) (us:List Value),us.length = ps.length -> bindArgs (PySem.W.fnOf x qual (defArgs st) (defBody st) (defScope st) .none kV doc pm an cdv ct) ⟨us,[]⟩ = pure (ps.zip us)):Binds K fd ps []:=by
  obtain ⟨oc,od,kV,doc,pm,an,cdv,ct,osl,rfl,lk,hcd⟩:=F.ex
  exact .all (h kV doc pm an cdv ct)
theorem fun_mk {x qual:Str} {st:Stmt} {f:Addr} {oc:Value} {od an:Option Addr} {osl:Array (Option Value)} {kV doc pm cdv ct:Value} (l:K.lookup f = some ⟨oc,od,.func (PySem.W.fnOf x qual (defArgs st) (defBody st) (defScope st) .none kV doc pm an cdv ct),osl⟩)
    (c:PySem.W.codeIn K cdv qual = true) (k:PySem.W.keepIn K (.ref f) = true):Fun K x qual st f (PySem.W.fnOf x qual (defArgs st) (defBody st) (defScope st) .none kV doc pm an cdv ct):=⟨⟨oc,od,kV,doc,pm,an,cdv,ct,osl,rfl,l,c⟩,k⟩
end
theorem small1000 {n:Nat} (h:n <= 1000):n < sizeLine:=Nat.lt_of_le_of_lt h (by decide)
section
variable {X:Cx}
theorem pv (i:Nat) {x:Str} {pos:Pos} (hN:X.N[i]? = some x:=by rfl) (hv:Vis X.env.scope x:=by first | exact Or.inl rfl | exact Or.inr (Or.inl rfl) | exact Or.inr (Or.inr rfl)) (hd:(x == ("__debug__":Str)) = false:=by decide)
    (hcd:(x == ("__classdict__":Str)) = false:=by decide):PE X (.Name x pos) (tVar i):=pe_var hN hv hd hcd
end
theorem iteF {A B:Prop} (h:B):if false = true then A else B:=by
  rw [if_neg Bool.false_ne_true]
  exact h
theorem iteT {A B:Prop} (h:A):if true = true then A else B:=by
  rw [if_pos rfl]
  exact h
noncomputable def Same (H H':Hp):Prop:=∀ b o,H b = some o -> H' b = some o
theorem Same.refl (H:Hp):Same H H:=fun _ _ h => h
theorem Same.trans {H H1 H2:Hp} (a:Same H H1) (b:Same H1 H2):Same H H2:=fun c o h => b c o (a c o h)
theorem Same.free {H H':Hp} (e:Same H H') {l:Addr} (h:H' l = Option.none):H l = Option.none:=by
  cases q:H l with
  | none => rfl
  | some o =>
    rw [e l o q] at h
    cases h
theorem Same.seq {K:PySem.W.Frag} {H H':Hp} {a:Addr} {xs:List V} (e:Same H H') (h:SqL K H a xs):SqL K H' a xs:=by
  rcases h with (h | ⟨o,h⟩) | h
  . exact .inl (.inl (e _ _ h))
  . exact .inl (.inr ⟨o,e _ _ h⟩)
  . exact .inr h
end L2
namespace L2
open PySem PySem.Spec PyProof.Rows
section
variable {κ:Type} [DecidableEq κ]
noncomputable def valV (kvs:List (κ×V)) (k:κ):Option V:=(kvs.find? fun kv => decide (kv.1 = k)).map (·.2)
noncomputable def putK (kvs:List (κ×V)) (k:κ) (v:V):List (κ×V) :=
  if (kvs.any fun kv => decide (kv.1 = k)) = true then kvs.map (fun kv => if kv.1 = k then (kv.1,v) else kv) else kvs ++ [(k,v)]
noncomputable def dropK (kvs:List (κ×V)) (k:κ):List (κ×V):=kvs.filter fun kv => decide (kv.1 ≠ k)
theorem valV_nil {k:κ}:valV ([]:List (κ×V)) k = none:=rfl
theorem valV_pos {p:κ×V} {r:List (κ×V)} {k:κ} (e:p.1 = k):valV (p :: r) k = some p.2:=by simp [valV,List.find?_cons,e]
theorem valV_neg {p:κ×V} {r:List (κ×V)} {k:κ} (e:¬ p.1 = k):valV (p :: r) k = valV r k:=by simp [valV,List.find?_cons,e]
theorem valV_any (k:κ):∀ kvs:List (κ×V),(kvs.any fun kv => decide (kv.1 = k)) = (valV kvs k).isSome
  | [] => rfl
  | p :: r => by
    rw [List.any_cons]
    by_cases e:p.1 = k
    . simp only [valV_pos e,decide_eq_true e,Bool.true_or,Option.isSome_some]
    . rw [valV_neg e,decide_eq_false e,Bool.false_or]; exact valV_any k r
theorem valV_map (k j:κ) (y:V):∀ kvs:List (κ×V),valV (kvs.map fun kv => if kv.1 = k then (kv.1,y) else kv) j = (valV kvs j).map fun x => if j = k then y else x
  | [] => rfl
  | p :: r => by
    have ih:=valV_map k j y r
    rw [List.map_cons]
    by_cases h:p.1 = k
    . rw [if_pos h]
      by_cases e:p.1 = j
      . rw [valV_pos (p:=(p.1,y)) e,valV_pos e,Option.map_some,if_pos (e.symm.trans h)]
      . rw [valV_neg (p:=(p.1,y)) e,valV_neg e,ih]
    . rw [if_neg h]
      by_cases e:p.1 = j
      . rw [valV_pos (p:=p) e,valV_pos e,Option.map_some,if_neg (fun z => h (e.trans z))]
      . rw [valV_neg (p:=p) e,valV_neg e,ih]
theorem valV_snoc (k j:κ) (y:V):∀ kvs:List (κ×V),valV kvs k = none -> valV (kvs ++ [(k,y)]) j = if j = k then some y else valV kvs j
  | [],_ => by
    by_cases e:k = j
    . rw [if_pos e.symm]; exact valV_pos (p:=(k,y)) e
    . rw [if_neg (fun z => e z.symm)]; exact valV_neg (p:=(k,y)) e
  | p :: r,hn => by
    rw [List.cons_append]
    have hk:¬ p.1 = k:=fun z => by rw [valV_pos z] at hn; cases hn
    rw [valV_neg hk] at hn
    have ih:=valV_snoc k j y r hn
    by_cases e:p.1 = j
    . rw [valV_pos e,valV_pos e,if_neg (fun z => hk (e.trans z))]
    . rw [valV_neg e,valV_neg e,ih]
theorem valV_put (kvs:List (κ×V)) (k j:κ) (y:V):valV (putK kvs k y) j = if j = k then some y else valV kvs j:=by
  unfold putK
  by_cases a:(kvs.any fun kv => decide (kv.1 = k)) = true
  . rw [if_pos a,valV_map]
    rw [valV_any] at a
    by_cases e:j = k
    . obtain ⟨x,hx⟩:=Option.isSome_iff_exists.mp a
      rw [if_pos e,e,hx,Option.map_some,if_pos rfl]
    . rw [if_neg e]
      cases valV kvs j with
      | none => rfl
      | some x => rw [Option.map_some,if_neg e]
  . rw [if_neg a]
    refine valV_snoc k j y kvs ?_
    rw [valV_any] at a
    cases q:valV kvs k with
    | none => rfl
    | some x => rw [q] at a; exact (a rfl).elim
theorem length_putK (kvs:List (κ×V)) (k:κ) (v:V):(putK kvs k v).length <= kvs.length + 1:=by
  unfold putK
  split
  . rw [List.length_map]; omega
  . rw [List.length_append,List.length_cons,List.length_nil]; omega
theorem RelO.isSome_eq {o:Option V} {u:Option Value} (r:RelO o u):o.isSome = u.isSome:=by
  cases o with
  | none => cases u with
    | none => rfl
    | some _ => exact (show False from r).elim
  | some _ => cases u with
    | none => exact (show False from r).elim
    | some _ => rfl
theorem RelO.getD {o:Option V} {u:Option Value} {d:V} {d':Value} (r:RelO o u) (rd:RelV d d'):RelV (o.getD d) (u.getD d'):=by
  cases o with
  | none => cases u with
    | none => exact rd
    | some _ => exact (show False from r).elim
  | some _ => cases u with
    | none => exact (show False from r).elim
    | some _ => exact r
theorem KV.val {kvs:List (κ×V)} {vs:List (κ×Value)} (r:KV kvs vs) (k:κ):RelO (valV kvs k) (valueAt vs k):=by
  unfold KV at r
  induction r with
  | nil => exact True.intro
  | @cons p q ps qs h t ih =>
    obtain ⟨h1,h2⟩:=h
    by_cases e:p.1 = k
    . have e':q.1 = k:=h1.symm.trans e
      have b:valueAt (q :: qs) k = some q.2:=by simp [valueAt,List.find?_cons,e']
      rw [valV_pos e,b]; exact h2
    . have e':¬ q.1 = k:=fun z => e (h1.trans z)
      have b:valueAt (q :: qs) k = valueAt qs k:=by simp [valueAt,List.find?_cons,e']
      rw [valV_neg e,b]; exact ih
theorem KV.any {kvs:List (κ×V)} {vs:List (κ×Value)} (r:KV kvs vs) (k:κ):(kvs.any fun kv => decide (kv.1 = k)) = vs.any fun kv => decide (kv.1 = k):=by
  unfold KV at r
  induction r with
  | nil => rfl
  | cons h t ih => rw [List.any_cons,List.any_cons,ih,h.1]
theorem KV.repl {kvs:List (κ×V)} {vs:List (κ×Value)} (r:KV kvs vs) (k:κ) {y:V} {u:Value} (ry:RelV y u) :
    KV (kvs.map fun kv => if kv.1 = k then (kv.1,y) else kv) (vs.map fun kv => if kv.1 = k then (kv.1,u) else kv):=by
  unfold KV at r ⊢
  induction r with
  | nil => exact .nil
  | @cons p q ps qs h t ih =>
    rw [List.map_cons,List.map_cons]
    refine .cons ?_ ih
    obtain ⟨h1,h2⟩:=h
    by_cases e:p.1 = k
    . rw [if_pos e,if_pos (h1.symm.trans e)]; exact ⟨h1,ry⟩
    . rw [if_neg e,if_neg (fun z => e (h1.trans z))]; exact ⟨h1,h2⟩
theorem KV.put {kvs:List (κ×V)} {vs:List (κ×Value)} (r:KV kvs vs) (k:κ) {y:V} {u:Value} (ry:RelV y u):KV (putK kvs k y) (stored vs k u):=by
  unfold putK stored
  rw [r.any k]
  by_cases e:(vs.any fun kv => decide (kv.1 = k)) = true
  . rw [if_pos e,if_pos e]; exact r.repl k ry
  . rw [if_neg e,if_neg e]; exact Paired.snoc r ⟨rfl,ry⟩
theorem KV.drop {kvs:List (κ×V)} {vs:List (κ×Value)} (r:KV kvs vs) (k:κ):KV (dropK kvs k) (without vs k):=by
  unfold KV at r ⊢
  unfold dropK without
  induction r with
  | nil => exact .nil
  | @cons p q ps qs h t ih =>
    obtain ⟨h1,h2⟩:=h
    rw [List.filter_cons,List.filter_cons]
    by_cases e:p.1 = k
    . have a:¬ decide (p.1 ≠ k) = true:=by simp [e]
      have b:¬ decide (q.1 ≠ k) = true:=by simp [h1.symm.trans e]
      rw [if_neg a,if_neg b]; exact ih
    . have e':¬ q.1 = k:=fun z => e (h1.trans z)
      have a:decide (p.1 ≠ k) = true:=by simp [e]
      have b:decide (q.1 ≠ k) = true:=by simp [e']
      rw [if_pos a,if_pos b]; exact .cons ⟨h1,h2⟩ ih
theorem KV.keys {kvs:List (κ×V)} {vs:List (κ×Value)} (r:KV kvs vs):kvs.map (·.1) = vs.map (·.1):=by
  unfold KV at r
  induction r with
  | nil => rfl
  | cons h t ih => rw [List.map_cons,List.map_cons,ih,h.1]
theorem KV.length {kvs:List (κ×V)} {vs:List (κ×Value)} (r:KV kvs vs):kvs.length = vs.length:=Paired.length r
end
theorem kV_is {P:Program} {w:World} {k:Key} {u:Value} (r:RelV (kV k) u):(mixKind P w).is k u = true:=by
  cases k with
  | inl i => obtain ⟨t,e⟩:=(show ∃ t,u = Value.int i t from r); subst e; exact mixKind_int P w i t
  | inr x => obtain ⟨t,e⟩:=(show ∃ t,u = Value.str x t from r); subst e; exact mixKind_str P w x t
theorem items_are {P:Program} {w:World}:∀ {ks:List Key} {us:List Value},Vals (ks.map kV) us -> ItemsAre (mixKind P w) ks us
  | [],_,r => by rw [List.map_nil] at r; cases r; exact .nil
  | k :: ks,_,r => by
    rw [List.map_cons] at r
    cases r with
    | cons h t => exact .cons (kV_is h) (items_are t)
noncomputable abbrev KT (H:Hp):List (List Key×V) -> List (List Key×Addr×Value) -> Prop:=Paired fun p q => p.1 = q.1 /\ H q.2.1 = some (.tup (p.1.map kV)) /\ RelV p.2 q.2.2
theorem KT.val {H:Hp} {kvs:List (List Key×V)} {xs:List (List Key×Addr×Value)} (r:KT H kvs xs) (k:List Key):RelO (valV kvs k) ((atKey xs k).map (·.2)):=by
  induction r with
  | nil => exact True.intro
  | @cons p q ps qs h t ih =>
    obtain ⟨h1,_,h2⟩:=h
    by_cases e:p.1 = k
    . have e':q.1 = k:=h1.symm.trans e
      have b:atKey (q :: qs) k = some q.2:=by simp [atKey,List.find?_cons,e']
      rw [valV_pos e,b]; exact h2
    . have e':¬ q.1 = k:=fun z => e (h1.trans z)
      have b:atKey (q :: qs) k = atKey qs k:=by simp [atKey,List.find?_cons,e']
      rw [valV_neg e,b]; exact ih
theorem KT.repl {H:Hp} {kvs:List (List Key×V)} {xs:List (List Key×Addr×Value)} (r:KT H kvs xs) (k:List Key) {y:V} {u:Value} (ry:RelV y u) :
    KT H (kvs.map fun kv => if kv.1 = k then (kv.1,y) else kv) (xs.map (putAt k u)):=by
  induction r with
  | nil => exact .nil
  | @cons p q ps qs h t ih =>
    rw [List.map_cons,List.map_cons]
    refine .cons ?_ ih
    obtain ⟨h1,h2,h3⟩:=h
    unfold putAt
    by_cases e:p.1 = k
    . rw [if_pos e,if_pos (h1.symm.trans e)]; exact ⟨h1,h2,ry⟩
    . rw [if_neg e,if_neg (fun z => e (h1.trans z))]; exact ⟨h1,h2,h3⟩
theorem KT.put {H:Hp} {kvs:List (List Key×V)} {xs:List (List Key×Addr×Value)} (r:KT H kvs xs) (k:List Key) {b:Addr} {y:V} {u:Value} (hb:H b = some (.tup (k.map kV))) (ry:RelV y u) :
    KT H (putK kvs k y) (storedH xs k b u):=by
  have e:(kvs.any fun kv => decide (kv.1 = k)) = (atKey xs k).isSome:=by
    rw [valV_any,(r.val k).isSome_eq,Option.isSome_map]
  unfold putK storedH
  rw [e]
  by_cases q:(atKey xs k).isSome = true
  . rw [if_pos q,if_pos q]; exact r.repl k ry
  . rw [if_neg q,if_neg q]; exact Paired.snoc r ⟨rfl,hb,ry⟩
theorem KT.keeps {H H':Hp} {kvs:List (List Key×V)} {xs:List (List Key×Addr×Value)} (r:KT H kvs xs) (ht:∀ b ys,H b = some (.tup ys) -> H' b = some (.tup ys)):KT H' kvs xs :=
  Paired.mapP r fun _ _ z => ⟨z.1,ht _ _ z.2.1,z.2.2⟩
section
variable {P:Program} {w:World} {H:Hp} {h:Heap} {a:Addr}
theorem rd_of {u:HO} (ok:HOk P w H h) (e:Rd H a u):ObjOk P w H h a u:=e.ok ok
theorem dk_rd {kvs:List (Key×V)} (ok:HOk P w H h) (e:Rd H a (.dK kvs)):kvs.length <= sizeLine /\ (a == sysModules) = false /\ ∃ vs,KV kvs vs /\ h.DictOf (mixKind P w) a vs :=
  show ObjOk P w H h a (.dK kvs) from rd_of ok e
theorem dk_of {kvs:List (Key×V)} (ok:HOk P w H h) (e:H a = some (.dK kvs)):kvs.length <= sizeLine /\ (a == sysModules) = false /\ ∃ vs,KV kvs vs /\ h.DictOf (mixKind P w) a vs:=dk_rd ok (.inl e)
theorem key_of {ks:List Key} (ok:HOk P w H h) (e:H a = some (.tup (ks.map kV))):(tupleKind (mixKind P w)).is h ks a:=by
  obtain ⟨_,its,r,o,h1,h2,n,h3⟩:=(show ObjOk P w H h a (.tup (ks.map kV)) from ok a _ e)
  exact ⟨o,its.toArray,n,h1,h2,h3,by simpa using items_are r⟩
theorem dt_rd {kvs:List (List Key×V)} (ok:HOk P w H h) (e:Rd H a (.dT kvs)):kvs.length <= sizeLine /\ (a == sysModules) = false /\
    ∃ xs,KT H kvs xs /\ h.DictOfH (tupleKind (mixKind P w)) a xs:=by
  obtain ⟨z,y,xs,r,o,es,ep,h1,h2,h3,h4,h5⟩:=(show ObjOk P w H h a (.dT kvs) from rd_of ok e)
  refine ⟨z,y,xs,r,o,es,ep,h1,h2,h3,h4,fun x hx => ?_,h5⟩
  have all:∀ {l:List (List Key×V)} {m:List (List Key×Addr×Value)},KT H l m -> ∀ x ∈ m,(tupleKind (mixKind P w)).is h x.1 x.2.1:=by
    intro l m q
    induction q with
    | nil => intro x hx; exact nomatch hx
    | @cons p q ps qs hq t ih =>
      intro x hx
      rcases List.mem_cons.mp hx with e | hx
      . subst e
        exact key_of ok (by rw [← hq.1]; exact hq.2.1)
      . exact ih x hx
  exact all r x hx
theorem dt_of {kvs:List (List Key×V)} (ok:HOk P w H h) (e:H a = some (.dT kvs)):kvs.length <= sizeLine /\ (a == sysModules) = false /\
    ∃ xs,KT H kvs xs /\ h.DictOfH (tupleKind (mixKind P w)) a xs:=dt_rd ok (.inl e)
end
noncomputable def DGet (H:Hp) (a:Addr) (y:V) (r:Option V):Prop :=
  (∃ kvs k,Rd H a (.dK kvs) /\ y = kV k /\ r = valV kvs k) ∨ ∃ kvs k b,Rd H a (.dT kvs) /\ y = .ref b /\ H b = some (.tup (k.map kV)) /\ r = valV kvs k
noncomputable def DPut (H:Hp) (a:Addr) (y v:V) (H':Hp):Prop :=
  (∃ kvs k,H a = some (.dK kvs) /\ y = kV k /\ kvs.length < sizeLine /\ H' = upd H a (.dK (putK kvs k v))) ∨
  ∃ kvs k b,H a = some (.dT kvs) /\ y = .ref b /\ H b = some (.tup (k.map kV)) /\ kvs.length < sizeLine /\ H' = upd H a (.dT (putK kvs k v))
theorem DGet.k {H:Hp} {a:Addr} {kvs:List (Key×V)} {k:Key} (e:H a = some (.dK kvs)):DGet H a (kV k) (valV kvs k):=.inl ⟨kvs,k,.inl e,rfl,rfl⟩
theorem DGet.t {H:Hp} {a b:Addr} {kvs:List (List Key×V)} {k:List Key} (e:H a = some (.dT kvs)) (eb:H b = some (.tup (k.map kV))):DGet H a (.ref b) (valV kvs k):=.inr ⟨kvs,k,b,.inl e,rfl,eb,rfl⟩
theorem DPut.k {H:Hp} {a:Addr} {kvs:List (Key×V)} {k:Key} {v:V} (e:H a = some (.dK kvs)) (hl:kvs.length < sizeLine):DPut H a (kV k) v (upd H a (.dK (putK kvs k v))):=.inl ⟨kvs,k,e,rfl,hl,rfl⟩
theorem DPut.t {H:Hp} {a b:Addr} {kvs:List (List Key×V)} {k:List Key} {v:V} (e:H a = some (.dT kvs)) (eb:H b = some (.tup (k.map kV))) (hl:kvs.length < sizeLine) :
    DPut H a (.ref b) v (upd H a (.dT (putK kvs k v))):=.inr ⟨kvs,k,b,e,rfl,eb,hl,rfl⟩
section
variable {X:Cx} {pins:List (Addr×Obj)} {σ:St} {H:Hp} {s:Shared} {a:Addr} {y v:V} {u r:Value} {o:Option V} {A:Around} {E:Value -> Shared -> Prop}
theorem Inv.big (I:Inv X pins σ H s):sysModules < s.heap.objs.size:=by
  have h:mainGlobals < s.heap.objs.size:=(I.mod.glob.keeps I.bk).lt
  exact Nat.lt_trans (by decide) h
theorem d_getItem {Q:Value -> Shared -> Prop} (hu:A.units + 1 < cLine) (I:Inv X pins σ H s) (g:DGet H a y (some v)) (ry:RelV y u) (h:∀ w' s',Inv X pins σ H s' -> RelV v w' -> Q w' s') :
    wpAny (model X.prog X.w) A (getItem (.ref a) u) Q E s:=by
  rcases g with ⟨kvs,k,e,ey,l⟩ | ⟨kvs,k,b,e,ey,eb,l⟩
  . subst ey
    obtain ⟨z,hd,vs,rel,dd⟩:=dk_rd I.hok e
    obtain ⟨w',hw,rw'⟩:=RelO.some_of (v:=v) (o:=valueAt vs k) (by rw [l]; exact rel.val k)
    exact wpAny_getItem_of (kV_is ry) dd.mapOf hw (h w' _ (I.tok _) rw')
  . subst ey
    cases (show u = Value.ref b from ry)
    obtain ⟨z,hd,xs,rel,dd⟩:=dt_rd I.hok e
    obtain ⟨w',hw,rw'⟩:=RelO.some_of (v:=v) (o:=(atKey xs k).map (·.2)) (by rw [l]; exact rel.val k)
    obtain ⟨p,hp,hp2⟩:=Option.map_eq_some_iff.mp hw
    refine wpAny_getItem_heap (tupleKind_room_in1 hu) (key_of I.hok eb) dd hp ?_
    rw [hp2]
    exact h w' _ (I.tok _) rw'
theorem d_in {Q:Value -> Shared -> Prop} (hu:A.units + 1 < cLine) (I:Inv X pins σ H s) (g:DGet H a y o) (ry:RelV y u) (h:∀ s',Inv X pins σ H s' -> Q (.bool o.isSome) s') :
    wpAny (model X.prog X.w) A (compareOp .In u (.ref a)) Q E s:=by
  rcases g with ⟨kvs,k,e,ey,l⟩ | ⟨kvs,k,b,e,ey,eb,l⟩
  . subst ey
    obtain ⟨z,hd,vs,rel,dd⟩:=dk_rd I.hok e
    refine wpAny_in_of (kV_is ry) hd dd.mapOf ?_
    rw [← (rel.val k).isSome_eq,← l]
    exact h _ (I.tok _)
  . subst ey
    cases (show u = Value.ref b from ry)
    obtain ⟨z,hd,xs,rel,dd⟩:=dt_rd I.hok e
    refine wpAny_in_heap (tupleKind_room_in1 hu) (key_of I.hok eb) hd dd ?_
    have q:=(rel.val k).isSome_eq
    rw [Option.isSome_map] at q
    rw [← q,← l]
    exact h _ (I.tok _)
theorem d_notIn {Q:Value -> Shared -> Prop} (hu:A.units + 1 < cLine) (I:Inv X pins σ H s) (g:DGet H a y o) (ry:RelV y u) (h:∀ s',Inv X pins σ H s' -> Q (.bool (!o.isSome)) s') :
    wpAny (model X.prog X.w) A (compareOp .NotIn u (.ref a)) Q E s:=by
  rcases g with ⟨kvs,k,e,ey,l⟩ | ⟨kvs,k,b,e,ey,eb,l⟩
  . subst ey
    obtain ⟨z,hd,vs,rel,dd⟩:=dk_rd I.hok e
    refine wpAny_notIn_of (kV_is ry) hd dd.mapOf ?_
    rw [← (rel.val k).isSome_eq,← l]
    exact h _ (I.tok _)
  . subst ey
    cases (show u = Value.ref b from ry)
    obtain ⟨z,hd,xs,rel,dd⟩:=dt_rd I.hok e
    refine wpAny_notIn_heap (tupleKind_room_in1 hu) (key_of I.hok eb) hd dd ?_
    have q:=(rel.val k).isSome_eq
    rw [Option.isSome_map] at q
    rw [← q,← l]
    exact h _ (I.tok _)
theorem d_write {h':Heap} {t':Nat} {ob:HO} (I:Inv X pins σ H s) (mu:Mut (H a)) (hs:Heap.SameBut a s.heap h') (he:∃ q,h'.get? a = some q) (new:ObjOk X.prog X.w (upd H a ob) h' a ob) :
    Inv X pins σ (upd H a ob) { s with heap:=h',toks:=t' } :=
  I.write (x:=a) (e:=a) mu (.inl rfl) (fun b q hb z => (hs.2 b hb).trans z) he new
theorem dk_new {P:Program} {w:World} {H':Hp} {h':Heap} {kvs:List (Key×V)} {vs:List (Key×Value)} (z:kvs.length <= sizeLine) (hd:(a == sysModules) = false) (rel:KV kvs vs) (dd:h'.DictOf (mixKind P w) a vs) :
    ObjOk P w H' h' a (.dK kvs):=⟨z,hd,vs,rel,dd⟩
theorem d_setItem {H':Hp} {Q:Unit -> Shared -> Prop} (hu:A.units + 1 < cLine) (I:Inv X pins σ H s) (g:DPut H a y v H') (ry:RelV y u) (rv:RelV v r) (h:∀ s',Inv X pins σ H' s' -> Q () s') :
    wpAny (model X.prog X.w) A (setItem (.ref a) u r) Q E s:=by
  rcases g with ⟨kvs,k,e,ey,l,eH⟩ | ⟨kvs,k,b,e,ey,eb,l,eH⟩
  . subst ey eH
    obtain ⟨z,hd,vs,rel,dd⟩:=dk_of I.hok e
    have hz:vs.length <= sizeLine:=by rw [← rel.length]; exact z
    have hl:(putK kvs k v).length <= sizeLine:=by have:=length_putK kvs k v; omega
    refine wpAny_setItem_pairs (hsz:=hz) (kV_is ry) dd fun h' dd' hs => h _ ?_
    have he:∃ q,h'.get? a = some q:=let ⟨q,_,_,hq,_⟩:=dd'; ⟨q,hq⟩
    exact d_write I (by rw [e]; exact True.intro) hs he (dk_new hl hd (rel.put k rv) dd')
  . subst ey eH
    cases (show u = Value.ref b from ry)
    obtain ⟨z,hd,xs,rel,dd⟩:=dt_of I.hok e
    have hz:xs.length <= sizeLine:=by rw [← Paired.length rel]; exact z
    have hl:(putK kvs k v).length <= sizeLine:=by have:=length_putK kvs k v; omega
    refine wpAny_setItem_heap (hsz:=hz) (tupleKind_room_in1 hu) (key_of I.hok eb) dd fun h' dd' hs => h _ ?_
    obtain ⟨q,es,ep,hq,h2,h3,h4,_,h5⟩:=dd'
    refine d_write I (by rw [e]; exact True.intro) hs ⟨q,hq⟩ ⟨hl,hd,_,(rel.put k eb rv).keeps fun c ys ec => ?_,q,es,ep,hq,h2,h3,h4,h5⟩
    rw [upd_ne (ne_of ec e (fun z => nomatch z))]
    exact ec
end
section
variable {X:Cx} {pins:List (Addr×Obj)} {σ:St} {H:Hp} {s:Shared} {a:Addr} {kvs:List (Key×V)} {k:Key} {u:Value} {A:Around} {E:Value -> Shared -> Prop}
end
noncomputable def NoSl (i:Expr):Prop:=∀ ov iv,subscripted i false ov iv = operate [ov,iv] (getItem ov iv)
theorem subD_of {prog:Program} {w:World} {A:Around} {E:Value -> Shared -> Prop} {s:Shared} {env:Env} {value slice:Expr} {pos:Pos} {T id:String} {Q:Value -> Shared -> Prop}
    (hl:typeLookup (.type T) "__getitem__" = pure (some (.builtin id))) (hs:NoSl slice)
    (h:wpAny (model prog w) A (eval value env) (fun o s₁ => wpAny (model prog w) A (eval slice env) (fun i s₂ => s₂.TypeIs o T /\ wpAny (model prog w) A (getItem o i) Q E s₂) E s₁) E s) :
    wpAny (model prog w) A (eval (.Subscript value slice pos) env) Q E s:=by
  refine Subscript_ (wpAny_mono h (fun o s₁ h₁ => wpAny_mono h₁ (fun i s₂ h₂ => ?_) fun _ _ x => x) fun _ _ x => x)
  obtain ⟨hT,h₂⟩:=h₂
  unfold subscriptTail
  refine wpAny_bind ?_
  rw [getitemInPython_of_ne hT.not_modules]
  refine wpAny_bind (wpAny_specialOf hT hl ?_)
  have fin:wpAny (model prog w) A (subscripted slice false o i) (fun r s₃ => wpAny (model prog w) A (letTemporaryGo value o r >>= fun _ => pure r) Q E s₃) E s₂:=by
    rw [hs o i]
    exact wpAny_operating (wpAny_mono h₂ (fun r s₃ h₃ => wpAny_bind (wpAny_letTemporaryGo (wpAny_pure h₃))) fun _ _ x => x)
  first
    | exact wpAny_pure (wpAny_bind fin)
    | exact wpAny_bind (wpAny_pure (wpAny_bind fin))
    | exact wpAny_bind fin
theorem dict_typeIs {X:Cx} {pins:List (Addr×Obj)} {σ:St} {H:Hp} {s:Shared} {a:Addr} {y:V} {o:Option V} (I:Inv X pins σ H s) (g:DGet H a y o):s.TypeIs (.ref a) "dict":=by
  rcases g with ⟨kvs,k,e,_,_⟩ | ⟨kvs,k,b,e,_,_,_⟩
  . obtain ⟨_,_,vs,_,dd⟩:=dk_rd I.hok e
    exact dd.typeIs
  . obtain ⟨_,_,xs,_,dd⟩:=dt_rd I.hok e
    exact dd.typeIs
noncomputable def tDGet (td ty:TE):TE:=fun σ H Q => td σ H fun x H1 => ty σ H1 fun y H2 => ∃ a v,x = .ref a /\ DGet H2 a y (some v) /\ Q v H2
noncomputable def tDIn (ty td:TE):TE:=fun σ H Q => ty σ H fun y H1 => td σ H1 fun x H2 => ∃ a o,x = .ref a /\ DGet H2 a y o /\ Q (.bl o.isSome) H2
noncomputable def tDNotIn (ty td:TE):TE:=fun σ H Q => ty σ H fun y H1 => td σ H1 fun x H2 => ∃ a o,x = .ref a /\ DGet H2 a y o /\ Q (.bl (!o.isSome)) H2
noncomputable def sDPut (td ty tv:TE):TS:=fun D σ H => tv σ H fun v H1 => td σ H1 fun x H2 => ty σ H2 fun y H3 => ∃ a H4,x = .ref a /\ DPut H3 a y v H4 /\ D.nx σ H4
section
variable {X:Cx} {o i e value:Expr} {pos pos' tpos:Pos} {td ty tv:TE}
theorem pe_dget (hu:X.A.units + 1 < cLine) (ho:PE X o td) (hi:PE X i ty) (hs:NoSl i):PE X (.Subscript o i pos) (tDGet td ty):=by
  intro pins s σ H Q I h
  refine subD_of PySem.F.slot_dict_getitem.lookup hs (thn (ho pins s σ H _ I h) fun u s1 ⟨x,H1,I1,rx,q1⟩ => thn (hi pins s1 σ H1 _ I1 q1) fun iv s2 ⟨y,H2,I2,ry,a,v,ex,g,q2⟩ => ?_)
  subst ex
  obtain rfl:u = Value.ref a:=rx
  exact ⟨dict_typeIs I2 g,d_getItem hu I2 g ry fun w' s3 I3 rw' => ⟨v,H2,I3,rw',q2⟩⟩
theorem pc_din (hu:X.A.units + 1 < cLine) (hi:PE X i ty) (ho:PE X o td):PC X .In i o (tDIn ty td):=by
  intro pins s σ H Q I h
  refine thn (hi pins s σ H _ I h) fun iv s1 ⟨y,H1,I1,ry,q1⟩ => thn (ho pins s1 σ H1 _ I1 q1) fun u s2 ⟨x,H2,I2,rx,a,ov,ex,g,q2⟩ => ?_
  subst ex
  obtain rfl:u = Value.ref a:=rx
  exact d_in hu I2 g ry fun s3 I3 => ⟨.bl ov.isSome,H2,I3,rfl,q2⟩
theorem pc_dnotin (hu:X.A.units + 1 < cLine) (hi:PE X i ty) (ho:PE X o td):PC X .NotIn i o (tDNotIn ty td):=by
  intro pins s σ H Q I h
  refine thn (hi pins s σ H _ I h) fun iv s1 ⟨y,H1,I1,ry,q1⟩ => thn (ho pins s1 σ H1 _ I1 q1) fun u s2 ⟨x,H2,I2,rx,a,ov,ex,g,q2⟩ => ?_
  subst ex
  obtain rfl:u = Value.ref a:=rx
  exact d_notIn hu I2 g ry fun s3 I3 => ⟨.bl (!ov.isSome),H2,I3,rfl,q2⟩
theorem ps_dput (hu:X.A.units + 1 < cLine) (ho:PE X o td) (hi:PE X i ty) (hv:PE X value tv) (hs:swapsWith value (some (.Subscript o i pos')) pos.line X.env = pure false) :
    PS X (.Assign [.Subscript o i pos'] value pos) (sDPut td ty tv):=by
  intro pins s σ H D I h
  refine wpAny_Assign_Subscript (thn (hv pins s σ H _ I h) fun r s1 ⟨v,H1,I1,rv,q1⟩ => thn (ho pins s1 σ H1 _ I1 q1) fun u s2 ⟨x,H2,I2,rx,q2⟩ => thn (hi pins s2 σ H2 _ I2 q2) fun iv s3 ⟨y,H3,I3,ry,a,H4,ex,g,q3⟩ => ?_) hs
  subst ex
  obtain rfl:u = Value.ref a:=rx
  exact d_setItem hu I3 g ry rv fun s4 I4 => ⟨σ,H4,I4,q3⟩
end
theorem dk_empty {P:Program} {w:World} {H:Hp} (h:Heap) (hb:sysModules < h.objs.size):ObjOk P w H (h.push { cls:=.type "dict",data:=.dict #[] }) h.objs.size (.dK []) :=
  ⟨Nat.zero_le _,beq_eq_false_iff_ne.mpr (Ne.symm (Nat.ne_of_lt hb)),[],.nil,Heap.DictOf.new h⟩
noncomputable def tDNewK:TE:=fun _ H Q => ∀ p,H p = none -> Q (.ref p) (upd H p (.dK []))
section
variable {X:Cx} {pos:Pos}
theorem pe_dnewK:PE X (.Dict [] [] pos) tDNewK:=fun pins s σ H Q I h =>
  wpAny_Dict_empty ⟨.ref s.heap.objs.size,_,I.laid (a:=s.heap.objs.size) (o:=.dK []) (t':=s.toks) (fun _ _ q => Heap.get?_push_of_some _ q) (Nat.le_refl _) (dk_empty s.heap I.big),rfl,h _ (I.hok.fresh (Nat.le_refl _))⟩
end
noncomputable def tPairs:List (TE×TE) -> St -> Hp -> (List (V×V) -> Hp -> Prop) -> Prop
  | [],_,H,Q => Q [] H
  | (tk,tv) :: r,σ,H,Q => tk σ H fun x H1 => tv σ H1 fun y H2 => tPairs r σ H2 fun ps H3 => Q ((x,y) :: ps) H3
noncomputable abbrev VV:List (V×V) -> List (Value×Value) -> Prop:=Paired fun p q => RelV p.1 q.1 /\ RelV p.2 q.2
noncomputable def PPs (X:Cx) (pos:Pos) (keys:List (Option Expr)) (values:List Expr) (trs:List (TE×TE)):Prop :=
  ∀ (pins:List (Addr×Obj)) (s:Shared) (σ:St) (H:Hp) (Q:List (V×V) -> Hp -> Prop),Inv X pins σ H s -> tPairs trs σ H Q ->
    wpAny (model X.prog X.w) X.A (evalPairs (pairTrees keys values X.env pos)) (fun vs s' => ∃ ps H',Inv X pins σ H' s' /\ VV ps vs /\ Q ps H') X.xe s
theorem pps_nil {X:Cx} {pos:Pos}:PPs X pos [] [] []:=fun pins s σ H Q I h => pairTrees_nil_walk ⟨[],H,I,.nil,h⟩
theorem pps_cons {X:Cx} {pos:Pos} {k v:Expr} {ks:List (Option Expr)} {vs:List Expr} {tk tv:TE} {trs:List (TE×TE)} (hk:PE X k tk) (hv:PE X v tv) (hr:PPs X pos ks vs trs) :
    PPs X pos (some k :: ks) (v :: vs) ((tk,tv) :: trs):=fun pins s σ H Q I h =>
  pairTrees_cons_walk (thn (hk pins s σ H _ I h) fun u s1 ⟨x,H1,I1,rx,q1⟩ => thn (hv pins s1 σ H1 _ I1 q1) fun w2 s2 ⟨y,H2,I2,ry,q2⟩ =>
    thn (hr pins s2 σ H2 _ I2 q2) fun ws s3 ⟨ps,H3,I3,rel,q3⟩ => ⟨(x,y) :: ps,H3,I3,.cons ⟨rx,ry⟩ rel,q3⟩)
noncomputable def mergeK (kvs more:List (Key×V)):List (Key×V):=more.foldl (fun acc kv => putK acc kv.1 kv.2) kvs
theorem KV.merge:∀ {more:List (Key×V)} {rs:List (Key×Value)} {kvs:List (Key×V)} {vs:List (Key×Value)},KV more rs -> KV kvs vs -> KV (mergeK kvs more) (merged vs rs):=by
  intro more rs kvs vs r
  unfold KV at r
  induction r generalizing kvs vs with
  | nil => intro q; exact q
  | @cons p q ps qs h t ih =>
    intro r0
    have e:KV (putK kvs p.1 p.2) (stored vs q.1 q.2):=by
      have:=r0.put p.1 h.2
      rw [← h.1]; exact this
    exact ih e
theorem length_mergeK:∀ (more kvs:List (Key×V)),(mergeK kvs more).length <= kvs.length + more.length
  | [],kvs => by show kvs.length <= kvs.length + 0; omega
  | p :: r,kvs => by
    have h1:=length_mergeK r (putK kvs p.1 p.2)
    have h2:=length_putK kvs p.1 p.2
    show (mergeK (putK kvs p.1 p.2) r).length <= _
    rw [List.length_cons]; omega
theorem carries_of {P:Program} {w:World}:∀ {kvs:List (Key×V)} {ws:List (Value×Value)},VV (kvs.map fun kv => (kV kv.1,kv.2)) ws -> ∃ rs,Carries (mixKind P w) ws rs /\ KV kvs rs
  | [],_,r => by rw [List.map_nil] at r; cases r; exact ⟨[],True.intro,.nil⟩
  | p :: kvs,_,r => by
    rw [List.map_cons] at r
    cases r with
    | @cons a b as bs h t =>
      obtain ⟨rs,c,q⟩:=carries_of (P:=P) (w:=w) t
      obtain ⟨b1,b2⟩:=b
      exact ⟨(p.1,b2) :: rs,⟨kV_is h.1,rfl,c⟩,.cons ⟨rfl,h.2⟩ q⟩
noncomputable def tDisp (trs:List (TE×TE)):TE:=fun σ H Q => ∀ p,H p = none -> tPairs trs σ (upd H p (.dK [])) fun ps H2 => H2 p = some (.dK []) /\ ∃ kvs:List (Key×V),ps = kvs.map (fun kv => (kV kv.1,kv.2)) /\ kvs.length <= 15 /\ Q (.ref p) (upd H2 p (.dK (mergeK [] kvs)))
theorem pe_disp {X:Cx} {pos:Pos} {keys:List (Option Expr)} {values:List Expr} {trs:List (TE×TE)} (h:PPs X pos keys values trs) (hall:keys.all (·.isSome) = true) (hl:keys.length = values.length) (h0:keys ≠ [])
    (h15:keys.length <= 15):PE X (.Dict keys values pos) (tDisp trs):=by
  intro pins s σ H Q I q
  have hn:=I.hok.fresh (Nat.le_refl s.heap.objs.size)
  have I1:=I.laid (a:=s.heap.objs.size) (o:=.dK []) (h':=s.heap.push { cls:=.type "dict",data:=.dict #[] }) (t':=s.toks) (fun _ _ q => Heap.get?_push_of_some _ q) (Nat.le_refl _) (dk_empty s.heap I.big)
  refine wpAny_Dict_walk (knd:=mixKind X.prog X.w) hall hl h0 h15 (thn (h pins _ σ _ _ I1 (q _ hn)) fun ws s2 ⟨ps,H2,I2,rel,e,kvs,ep,lk,q2⟩ => ?_)
  subst ep
  obtain ⟨rs,c,rk⟩:=carries_of (P:=X.prog) (w:=X.w) rel
  obtain ⟨z,hd,vs0,r0,dd⟩:=dk_of I2.hok e
  cases r0
  refine ⟨rs,c,dd,fun h' dd' hs => ⟨.ref s.heap.objs.size,_,?_,rfl,q2⟩⟩
  have hz:(mergeK [] kvs).length <= sizeLine:=by
    have h1:=length_mergeK kvs []
    rw [List.length_nil] at h1
    rw [sizeLine_eq]; omega
  have he:∃ q,h'.get? s.heap.objs.size = some q:=let ⟨q,_,_,hq,_⟩:=dd'; ⟨q,hq⟩
  exact d_write I2 (by rw [e]; exact True.intro) hs he (dk_new hz hd (rk.merge .nil) dd')
noncomputable def IsD (H:Hp) (a:Addr):Prop:=(∃ kvs,Rd H a (.dK kvs)) ∨ ∃ kvs,Rd H a (.dT kvs)
section
variable {X:Cx} {pins:List (Addr×Obj)} {σ:St} {H:Hp} {s:Shared} {a:Addr} {y d:V} {u r:Value} {o:Option V} {A:Around} {E:Value -> Shared -> Prop}
end
noncomputable def tDGet1 (td ty:TE):TE:=fun σ H Q => td σ H fun x H1 => ∃ a,x = .ref a /\ IsD H1 a /\ ty σ H1 fun y H2 => ∃ o,DGet H2 a y o /\ Q (o.getD .non) H2
noncomputable def tDGet2 (td ty tx:TE):TE:=fun σ H Q => td σ H fun x H1 => ∃ a,x = .ref a /\ IsD H1 a /\ ty σ H1 fun y H2 => tx σ H2 fun z H3 => ∃ o,DGet H3 a y o /\ Q (o.getD z) H3
noncomputable def tDPop1 (td ty:TE):TE:=fun σ H Q => td σ H fun x H1 => ∃ a,x = .ref a /\ IsD H1 a /\ ty σ H1 fun y H2 => ∃ kvs k v,H2 a = some (.dK kvs) /\ y = kV k /\ valV kvs k = some v /\ Q v (upd H2 a (.dK (dropK kvs k)))
section
variable {X:Cx} {o e f:Expr} {apos cpos:Pos} {td ty tx:TE}
end
section
variable {X:Cx} {pins:List (Addr×Obj)} {σ:St} {H:Hp} {s:Shared} {a:Addr} {kvs:List (Key×V)} {A:Around} {E:Value -> Shared -> Prop}
end
section
variable {X:Cx} {pins:List (Addr×Obj)} {σ:St} {H:Hp} {s:Shared} {a:Addr} {y:V} {u:Value} {A:Around} {E:Value -> Shared -> Prop}
end
end L2
namespace L2
open PySem PySem.Spec PyProof.Rows
section
variable {κ:Type} [DecidableEq κ]
theorem dropK_pos {p:κ×V} {r:List (κ×V)} {k:κ} (e:p.1 = k):dropK (p :: r) k = dropK r k:=by
  unfold dropK
  rw [List.filter_cons,if_neg (by simp [e])]
theorem dropK_neg {p:κ×V} {r:List (κ×V)} {k:κ} (e:¬ p.1 = k):dropK (p :: r) k = p :: dropK r k:=by
  unfold dropK
  rw [List.filter_cons,if_pos (by simp [e])]
end
end L2
namespace L2
open PySem PySem.Spec PyProof.Rows
noncomputable def Sm (n:Nat) (x:Int):Prop:=x.natAbs < 2 ^ n
theorem Sm.mono {m n:Nat} {x:Int} (h:Sm m x) (l:m <= n):Sm n x:=Nat.lt_of_lt_of_le h (Nat.pow_le_pow_right (by decide) l)
theorem Sm.bits {n:Nat} {x:Int} (h:Sm n x):Builtin.Int.intBits x <= n:=by
  unfold Builtin.Int.intBits
  split
  . exact Nat.zero_le _
  . have hn:x.natAbs < 2 ^ n:=h
    rename_i hx
    have h0 : x.natAbs ≠ 0 := fun e => hx (by have : x = 0 := by omega
                                              rw [this]; rfl)
    have:x.natAbs.log2 < n:=(Nat.log2_lt h0).mpr hn
    omega
theorem Sm.mulOk {a b:Int} {m n:Nat} (ha:Sm m a) (hb:Sm n b) (h:m + n <= 134217728):IntMulOk a b:=PyProof.Rows.mulOk_of_bits ha.bits hb.bits h
theorem Sm.log2 {n:Nat} {x:Int} (h:Sm n x):x.natAbs.log2 < n + 1:=by
  have hn:x.natAbs < 2 ^ n:=h
  by_cases h0:x.natAbs = 0
  . rw [h0,Nat.log2_zero]; omega
  . have:=(Nat.log2_lt h0).mpr hn
    omega
theorem Sm.of {n:Nat} {x:Int} (h1:-(2 ^ n:Nat) < x) (h2:x < (2 ^ n:Nat)):Sm n x:=by
  unfold Sm
  generalize 2 ^ n = k at *
  omega
theorem Sm.add {a b:Int} {n:Nat} (ha:Sm n a) (hb:Sm n b):Sm (n + 1) (a + b):=by
  unfold Sm at *
  rw [Nat.pow_succ]
  have:=Int.natAbs_add_le a b
  omega
theorem Sm.sub {a b:Int} {n:Nat} (ha:Sm n a) (hb:Sm n b):Sm (n + 1) (a - b):=by
  unfold Sm at *
  rw [Nat.pow_succ]
  omega
theorem Sm.neg {a:Int} {n:Nat} (ha:Sm n a):Sm n (-a):=by
  unfold Sm at *
  rw [Int.natAbs_neg]; exact ha
theorem Sm.le {a b:Int} {n:Nat} (h:a.natAbs <= b.natAbs) (hb:Sm n b):Sm n a:=Nat.lt_of_le_of_lt h hb
section
variable {X:Cx}
noncomputable def CDivB (_ j:Int):Prop:=j ≠ 0 /\ Sm 8000 j
theorem op_fdivB:OpR X (binaryOp .FloorDiv) (rI CDivB fun i j => .int (i.fdiv j)):=opI fun _ _ _ _ _ _ _ hc q => floordiv_int hc.1 q (.inl (PyProof.noPylong_of_log2 (Nat.lt_trans hc.2.log2 (by decide))))
noncomputable def CMulB (i j:Int):Prop:=CMul i j ∨ (Sm 60000000 i /\ Sm 60000000 j)
theorem CMulB.ok {i j:Int} (h:CMulB i j):IntMulOk i j:=by
  rcases h with h | ⟨h1,h2⟩
  . exact h.ok
  . exact h1.mulOk h2 (by decide)
theorem CMulB.l {i j:Int} (h1:-(2 ^ 64) < i) (h2:i < 2 ^ 64):CMulB i j:=.inl (.inl ⟨h1,h2⟩)
theorem CMulB.r {i j:Int} (h1:-(2 ^ 64) < j) (h2:j < 2 ^ 64):CMulB i j:=.inl (.inr ⟨h1,h2⟩)
theorem CMulB.s {i j:Int} {m n:Nat} (h1:Sm m i) (h2:Sm n j) (hm:m <= 60000000) (hn:n <= 60000000):CMulB i j:=.inr ⟨h1.mono hm,h2.mono hn⟩
theorem op_mulB:OpR X (binaryOp .Mult) (rI CMulB fun i j => .int (i * j)):=opI fun _ _ _ _ _ _ _ hc q => mul_int q hc.ok
noncomputable def rIsB:R2:=fun x y H Q => ∃ b c,x = .bl b /\ y = .bl c /\ Q (.bl (b == c)) H
noncomputable def rIsNB:R2:=fun x y H Q => ∃ b c,x = .bl b /\ y = .bl c /\ Q (.bl (b != c)) H
noncomputable def rIsTy (K:PySem.W.Frag) (T:String):List V -> Hp -> VK -> Prop:=fun xs H Q => ∃ x t b,xs = [x,.ty T] /\ TyOf K H x t /\ PySem.W.kitOne K t (.type T) = some b /\ Q (.bl b) H
theorem call_isTy {T:String}:CallR X (.builtin "isinstance") (rIsTy X.K T):=by
  intro pins s σ H xs us Q I r h
  obtain ⟨x,t,b,rfl,ty,e,q⟩:=h
  obtain ⟨u,v,rfl,ru,rv⟩:=Vals.two r
  obtain rfl:v = Value.type T:=rv
  exact isinst_ok I ru ty e fun tk => ⟨.bl b,H,I.tok tk,rfl,q⟩
end
section
variable {σ:St} {H H':Hp} {Q:VK} {D:Ends} {t u:TS} {te ta tb:TE} {v w x:V} {i j:Int} {b c:Bool} {X:Cx} {K:PySem.W.Frag}
theorem r_var {n:Nat} (h:σ[n]? = some (some v)) (k:Q v H):tVar n σ H Q:=⟨v,h,k⟩
theorem r_c (k:Q v H):tC v σ H Q:=k
theorem r_seq (k:t ⟨u D,D.rt,D.bk,D.ct⟩ σ H):tSeq t u D σ H:=k
theorem r_nx {n r b' c'} (k:n σ H):Ends.nx ⟨n,r,b',c'⟩ σ H:=k
theorem r_rt {n r b' c'} (k:r v H):Ends.rt ⟨n,r,b',c'⟩ v H:=k
theorem r_bk {n r b' c'} (k:b' σ H):Ends.bk ⟨n,r,b',c'⟩ σ H:=k
theorem r_ct {n r b' c'} (k:c' σ H):Ends.ct ⟨n,r,b',c'⟩ σ H:=k
theorem r_next (k:D.nx σ H):tNext D σ H:=k
theorem r_break (k:D.bk σ H):tBreak D σ H:=k
theorem r_cont (k:D.ct σ H):tCont D σ H:=k
theorem r_asg {g:TG} (k:te σ H fun x H1 => g x σ H1 D.nx):tAsg te g D σ H:=k
theorem r_gname {n:Nat} {R:St -> Hp -> Prop} (k:R (σ.set n (some v)) H):gName n v σ H R:=k
theorem r_op {r:R2} (k:ta σ H fun x H1 => tb σ H1 fun y H2 => r x y H2 Q):tOp r ta tb σ H Q:=k
theorem r_un {r} (k:ta σ H fun x H1 => r x H1 Q):tUn r ta σ H Q:=k
theorem r_I0 {g} (k:Q (g i j) H):rI0 g (.int i) (.int j) H Q:=⟨i,j,rfl,rfl,k⟩
theorem r_I {C g} (c:C i j) (k:Q (g i j) H):rI C g (.int i) (.int j) H Q:=⟨i,j,rfl,rfl,c,k⟩
theorem r_U {g} (k:Q (g i) H):rU g (.int i) H Q:=⟨i,rfl,k⟩
noncomputable def bK (R:Bool -> Hp -> Prop):VK:=fun x H => ∃ k,x = .bl k /\ R k H
theorem r_bK {R:Bool -> Hp -> Prop} (k:R b H):bK R (.bl b) H:=⟨b,rfl,k⟩
theorem r_test {R:Bool -> Hp -> Prop} (k:te σ H (bK R)):tTest te σ H R:=k
theorem r_tB {R:Bool -> Hp -> Prop} (k:te σ H (bK R)):tB te σ H R:=k
theorem r_ifS {tc:TT} (k:tc σ H fun b H1 => if b = true then t D σ H1 else u D σ H1):tIfS tc t u D σ H:=k
theorem r_if {tc:TT} (k:tc σ H fun b H1 => if b = true then ta σ H1 Q else tb σ H1 Q):tIf tc ta tb σ H Q:=k
theorem r_and {ca cb:TT} {R:Bool -> Hp -> Prop} (k:ca σ H fun c H1 => if c = true then cb σ H1 R else R false H1):tAnd ca cb σ H R:=k
theorem r_or {ca cb:TT} {R:Bool -> Hp -> Prop} (k:ca σ H fun c H1 => if c = true then R true H1 else cb σ H1 R):tOr ca cb σ H R:=k
theorem r_not {ca:TT} {R:Bool -> Hp -> Prop} (k:ca σ H fun c H1 => R (!c) H1):tNot ca σ H R:=k
noncomputable def andK (tb:TE) (σ:St) (Q:VK):VK:=fun x H1 => ∃ c,x = .bl c /\ if c = true then tb σ H1 Q else Q (.bl false) H1
noncomputable def orK (tb:TE) (σ:St) (Q:VK):VK:=fun x H1 => ∃ c,x = .bl c /\ if c = true then Q (.bl true) H1 else tb σ H1 Q
noncomputable def notK (Q:VK):VK:=fun x H1 => ∃ c,x = .bl c /\ Q (.bl (!c)) H1
theorem r_andV (k:ta σ H (andK tb σ Q)):tAndV ta tb σ H Q:=k
theorem r_orV (k:ta σ H (orK tb σ Q)):tOrV ta tb σ H Q:=k
theorem r_notV (k:ta σ H (notK Q)):tNotV ta σ H Q:=k
theorem r_andK (k:if c = true then tb σ H Q else Q (.bl false) H):andK tb σ Q (.bl c) H:=⟨c,rfl,k⟩
theorem r_orK (k:if c = true then Q (.bl true) H else tb σ H Q):orK tb σ Q (.bl c) H:=⟨c,rfl,k⟩
theorem r_notK (k:Q (.bl (!c)) H):notK Q (.bl c) H:=⟨c,rfl,k⟩
theorem r_ret (k:te σ H D.rt):tRet te D σ H:=k
theorem r_retN (k:D.rt .non H):tRetN D σ H:=k
theorem r_drop (k:te σ H fun _ H1 => D.nx σ H1):tDrop te D σ H:=k
theorem r_nil {R:List V -> Hp -> Prop} (k:R [] H):tNil σ H R:=k
theorem r_cons {tr:TA} {R:List V -> Hp -> Prop} (k:ta σ H fun x H1 => tr σ H1 fun xs H2 => R (x :: xs) H2):tCons ta tr σ H R:=k
noncomputable def tupK (Q:VK):List V -> Hp -> Prop:=fun xs H1 => xs.length <= sizeLine /\ ∀ p,H1 p = none -> Q (.ref p) (upd H1 p (.tup xs))
noncomputable def lstK (Q:VK):List V -> Hp -> Prop:=fun xs H1 => xs.length <= sizeLine /\ ∀ p,H1 p = none -> Q (.ref p) (upd H1 p (.lst xs))
theorem le_line {n:Nat} (h:n <= 1000):n <= sizeLine:=Nat.le_of_lt (small1000 h)
theorem r_tup {tr:TA} (k:tr σ H (tupK Q)):tTup tr σ H Q:=k
theorem r_lst {tr:TA} (k:tr σ H (lstK Q)):tLst tr σ H Q:=k
theorem r_tupK {xs:List V} (k:∀ p,H p = none -> Q (.ref p) (upd H p (.tup xs))) (h:xs.length <= 1000:=by exact Nat.le_of_ble_eq_true rfl):tupK Q xs H:=⟨le_line h,k⟩
theorem r_lstK {xs:List V} (k:∀ p,H p = none -> Q (.ref p) (upd H p (.lst xs))) (h:xs.length <= 1000:=by exact Nat.le_of_ble_eq_true rfl):lstK Q xs H:=⟨le_line h,k⟩
theorem r_call {sp:Sp} {E:XK} {tr:TA} (k:tr σ H fun vs H1 => sp vs H1 Q E):tCall sp [] E tr σ H Q:=by
  show tr σ H fun vs H1 => sp (vs ++ []) H1 Q E
  have e:(fun (vs:List V) H1 => sp (vs ++ []) H1 Q E) = fun vs H1 => sp vs H1 Q E:=by
    funext vs H1
    rw [List.append_nil]
  rw [e]; exact k
theorem r_CB {r} {tr:TA} (k:tr σ H fun vs H1 => r vs H1 Q):tCB r tr σ H Q:=k
theorem r_par {n m:Nat} {ta:TA} (k:ta σ H fun vs H1 => ∃ v w,vs = [v,w] /\ D.nx ((σ.set n (some v)).set m (some w)) H1):tPar n m ta D σ H:=k
theorem r_eqI (k:Q (.bl (decide (i = j))) H):rEq (.int i) (.int j) H Q:=⟨rfl,by rw [dec_int,Bool.beq_eq_decide_eq]; exact k⟩
theorem r_neI (k:Q (.bl (!decide (i = j))) H):rNe (.int i) (.int j) H Q:=⟨rfl,by rw [dec_int,Bool.beq_eq_decide_eq]; exact k⟩
theorem r_eqB (k:Q (.bl (b == c)) H):rEq (.bl b) (.bl c) H Q:=⟨rfl,by rw [dec_bl]; exact k⟩
theorem r_neB (k:Q (.bl (!(b == c))) H):rNe (.bl b) (.bl c) H Q:=⟨rfl,by rw [dec_bl]; exact k⟩
theorem r_isB (k:Q (.bl (b == c)) H):rIsB (.bl b) (.bl c) H Q:=⟨b,c,rfl,rfl,k⟩
theorem r_isNB (k:Q (.bl (b != c)) H):rIsNB (.bl b) (.bl c) H Q:=⟨b,c,rfl,rfl,k⟩
theorem r_ixL {p:Addr} {xs:List V} (h:SqL K H p xs) (e:atI xs i = some v) (k:Q v H):rIxL K (.ref p) (.int i) H Q:=⟨p,xs,i,v,rfl,rfl,h,e,k⟩
theorem r_ixT {p:Addr} {xs:List V} (h:SqT K H p xs) (e:atI xs i = some v) (k:Q v H):rIxT K (.ref p) (.int i) H Q:=⟨p,xs,i,v,rfl,rfl,h,e,k⟩
noncomputable def rIxLT (K:PySem.W.Frag):R2:=fun x y H Q => rIxL K x y H Q ∨ rIxT K x y H Q ∨ rIxS x y H Q
theorem ix_LT:IxR X (rIxLT X.K):=ix_seq
theorem r_ixl {p:Addr} {xs:List V} (h:H p = some (.lst xs)) (e:atI xs i = some v) (k:Q v H):rIxLT K (.ref p) (.int i) H Q:=.inl (r_ixL (SqL.of h) e k)
theorem r_ixt {p:Addr} {xs:List V} (h:H p = some (.tup xs)) (e:atI xs i = some v) (k:Q v H):rIxLT K (.ref p) (.int i) H Q:=.inr (.inl (r_ixT (SqT.of h) e k))
theorem i_T {A B:Prop} (h:A):if true = true then A else B:=iteT h
theorem i_F {A B:Prop} (h:B):if false = true then A else B:=iteF h
theorem i_dT {p A B:Prop} [Decidable p] (hp:p) (h:A):if decide p = true then A else B:=by rw [decide_eq_true hp]; exact iteT h
theorem i_dF {p A B:Prop} [Decidable p] (hp:¬ p) (h:B):if decide p = true then A else B:=by rw [decide_eq_false hp]; exact iteF h
theorem i_d {p A B:Prop} [Decidable p] (h1:p -> A) (h2:¬ p -> B):if decide p = true then A else B:=by
  by_cases h:p
  . exact i_dT h (h1 h)
  . exact i_dF h (h2 h)
theorem i_flip {A B:Prop} (h:if b = true then B else A):if (!b) = true then A else B:=by cases b <;> exact h
theorem i_bT {A B:Prop} (hb:b = true) (h:A):if b = true then A else B:=by rw [hb]; exact i_T h
theorem i_bF {A B:Prop} (hb:b = false) (h:B):if b = true then A else B:=by rw [hb]; exact i_F h
end
noncomputable def Kp (p:Addr) (H H':Hp):Prop:=∀ b o,b ≠ p -> H b = some o -> H' b = some o
theorem Kp.refl (p:Addr) (H:Hp):Kp p H H:=fun _ _ _ h => h
theorem Kp.trans {p:Addr} {H H1 H2:Hp} (a:Kp p H H1) (b:Kp p H1 H2):Kp p H H2:=fun c o n h => b c o n (a c o n h)
theorem Kp.upd {p:Addr} {H:Hp} {o:HO}:Kp p H (upd H p o):=fun c u n h => by rw [upd_ne n]; exact h
theorem Kp.new {p q:Addr} {H:Hp} {o:HO} (hq:H q = none):Kp p H (L2.upd H q o):=fun c u n h => by rw [upd_ne (ne_of_none h hq)]; exact h
theorem Same.new {q:Addr} {H:Hp} {o:HO} (hq:H q = none):Same H (upd H q o):=fun c u h => by rw [upd_ne (ne_of_none h hq)]; exact h
theorem Same.kp {p:Addr} {H H':Hp} (s:Same H H'):Kp p H H':=fun c o _ h => s c o h
theorem Kp.tup {p q:Addr} {H H':Hp} {xs ys:List V} (k:Kp p H H') (hp:H p = some (.lst ys)) (hq:H q = some (.tup xs)):H' q = some (.tup xs) :=
  k q _ (ne_of hq hp (by intro z; cases z)) hq
theorem Kp.seq {K:PySem.W.Frag} {p a:Addr} {H H':Hp} {xs:List V} (e:Kp p H H') (n:a ≠ p) (h:SqL K H a xs):SqL K H' a xs:=by
  rcases h with (h | ⟨o,h⟩) | h
  . exact .inl (.inl (e _ _ n h))
  . exact .inl (.inr ⟨o,e _ _ n h⟩)
  . exact .inr h
theorem Same.kpn {p:Addr} {H H2 H3:Hp} (h:H p = none) (a:Same H H2) (k:Kp p H2 H3):Same H H3:=fun c o e => k c o (ne_of_none e h) (a c o e)
noncomputable def Fr2 (H:Hp) (v:V) (a b:Int):Prop:=∃ q,v = .ref q /\ H q = some (.tup [.int a,.int b])
theorem Fr2.same {H H':Hp} {v:V} {a b:Int} (h:Fr2 H v a b) (s:Same H H'):Fr2 H' v a b:=let ⟨q,e,h⟩:=h; ⟨q,e,s _ _ h⟩
noncomputable def St3 (H:Hp) (p:Addr) (n:Int):Prop:=∃ a b c:Int,H p = some (.lst [.int a,.int b,.int c]) /\ 0 <= a /\ 0 <= b /\ b <= n
theorem St3.mono {H:Hp} {p:Addr} {m n:Int} (h:St3 H p m) (l:m <= n):St3 H p n:=let ⟨a,b,c,h,x,y,z⟩:=h; ⟨a,b,c,h,x,y,Int.le_trans z l⟩
theorem St3.ne {H:Hp} {p q:Addr} {n:Int} {xs:List V} (h:St3 H p n) (hq:H q = some (.tup xs)):q ≠ p:=let ⟨_,_,_,h,_⟩:=h; ne_of hq h (by intro z; cases z)
theorem Fr2.kp {H H':Hp} {p:Addr} {v:V} {a b n:Int} (h:Fr2 H v a b) (s:St3 H p n) (k:Kp p H H'):Fr2 H' v a b :=
  let ⟨q,e,h⟩:=h; ⟨q,e,k _ _ (s.ne h) h⟩
theorem St3.new {H:Hp} {p q:Addr} {n:Int} {o:HO} (h:St3 H p n) (hq:H q = none):St3 (upd H q o) p n :=
  let ⟨a,b,c,h,x⟩:=h; ⟨a,b,c,Same.new hq _ _ h,x⟩
theorem Fr2.new {H:Hp} {q:Addr} {v:V} {a b:Int} {o:HO} (h:Fr2 H v a b) (hq:H q = none):Fr2 (upd H q o) v a b:=h.same (Same.new hq)
structure Df (K:PySem.W.Frag) (mg:Str -> Option Value) (x:Str) (st:Stmt) (ps:List Str):Prop where
  ex:∃ (f:Addr) (fd:FuncData),(∃ (oc:Value) (od:Option Addr) (dV kV doc pm:Value) (an:Option Addr) (cdv ct:Value) (osl:Array (Option Value)),
    fd = PySem.W.fnOf x x (defArgs st) (defBody st) (defScope st) dV kV doc pm an cdv ct /\ K.lookup f = some ⟨oc,od,.func fd,osl⟩ /\ PySem.W.codeIn K cdv x = true) /\ PySem.W.keepIn K (.ref f) = true /\ mg x = some (.ref f) /\ Binds K fd ps []
structure Okf (P:Program) (w:World) (K:PySem.W.Frag) (mg:Str -> Option Value) (base:Heap) (k:Nat) (x:Str) (ps:List Str) (sp:Sp):Prop where
  ex:∃ (f:Addr) (fd:FuncData),mg x = some (.ref f) /\ PySem.W.keepIn K (.ref f) = true /\ Binds K fd ps [] /\ FnOk P w K mg base CX0 k f fd ps sp
theorem Okf.mono {P:Program} {w:World} {K:PySem.W.Frag} {mg:Str -> Option Value} {base:Heap} {j k:Nat} {x:Str} {ps:List Str} {sp:Sp} (o:Okf P w K mg base j x ps sp) (h:j <= k):Okf P w K mg base k x ps sp :=
  let ⟨f,fd,a,b,c,d⟩:=o.ex; ⟨f,fd,a,b,c,d.mono h⟩
theorem Okf.of {P:Program} {w:World} {K:PySem.W.Frag} {mg:Str -> Option Value} {base:Heap} {k:Nat} {x:Str} {st:Stmt} {N ps:List Str} {sp:Sp} (d:Df K mg x st ps) (S:FnScope N ps (defScope st)) (len:∀ vs H Q E,sp vs H Q E -> vs.length = ps.length)
    (hbody:∀ (f:Addr) (cdv:Value) (A:Around) (outer:List Env) (s:Shared) (H:Hp) (vs:List V) (Q:VK) (E:XK),Room k (A.deeper (envOfC x (defScope st) s.heap.objs.size f cdv)) -> sp vs H Q E ->
      ∃ t,PSs (cxOf CX0 P w K mg base N x (defScope st) f cdv A outer s H E).nox (defBody st) t /\ t { nx:=fun _ H' => Q .non H',rt:=Q } (start N vs) H):Okf P w K mg base (k + 1) x ps sp:=by
  obtain ⟨f,fd,⟨oc,od,dV,kV,doc,pm,an,cdv,ct,osl,rfl,lk,hcd⟩,kp,a,b⟩:=d.ex
  refine ⟨f,_,a,kp,b,fn_of lk hcd S len fun A outer s H vs Q E hr hsp => ?_⟩
  obtain ⟨t,h,q⟩:=hbody f cdv A outer s H vs Q E hr hsp
  exact ⟨t,h.nox,q⟩
theorem df_mk {K:PySem.W.Frag} {mg:Str -> Option Value} {h:Heap} {x:Str} {st:Stmt} {ps:List Str} {f:Addr} {oc:Value} {od an:Option Addr} {osl:Array (Option Value)} {dV kV doc pm cdv ct:Value} (X:K.In h) (G:h.Ns mainGlobals mg)
    (a:PySem.W.nsIn K mainGlobals x = some (some (.ref f))) (l:K.lookup f = some ⟨oc,od,.func (PySem.W.fnOf x x (defArgs st) (defBody st) (defScope st) dV kV doc pm an cdv ct),osl⟩)
    (c:PySem.W.codeIn K cdv x = true) (k:PySem.W.keepIn K (.ref f) = true)
    (b:∀ us:List Value,us.length = ps.length -> bindArgs (PySem.W.fnOf x x (defArgs st) (defBody st) (defScope st) dV kV doc pm an cdv ct) ⟨us,[]⟩ = pure (ps.zip us)):Df K mg x st ps :=
  ⟨f,_,⟨oc,od,dV,kV,doc,pm,an,cdv,ct,osl,rfl,l,c⟩,k,PySem.W.mg_of X G a,.all b⟩
structure DfD (K:PySem.W.Frag) (mg:Str -> Option Value) (x:Str) (st:Stmt) (ps:List Str) (dvs:List V):Prop where
  ex:∃ (f:Addr) (fd:FuncData),(∃ (oc:Value) (od:Option Addr) (dV kV doc pm:Value) (an:Option Addr) (cdv ct:Value) (osl:Array (Option Value)),
    fd = PySem.W.fnOf x x (defArgs st) (defBody st) (defScope st) dV kV doc pm an cdv ct /\ K.lookup f = some ⟨oc,od,.func fd,osl⟩ /\ PySem.W.codeIn K cdv x = true) /\ PySem.W.keepIn K (.ref f) = true /\ mg x = some (.ref f) /\ Binds K fd ps [] /\ ∃ ds,Vals dvs ds /\ Binds K fd ps ds
structure OkfD (P:Program) (w:World) (K:PySem.W.Frag) (mg:Str -> Option Value) (base:Heap) (k:Nat) (x:Str) (ps:List Str) (dvs:List V) (sp:Sp):Prop where
  ex:∃ (f:Addr) (fd:FuncData),mg x = some (.ref f) /\ PySem.W.keepIn K (.ref f) = true /\ Binds K fd ps [] /\ (∃ ds,Vals dvs ds /\ Binds K fd ps ds) /\ FnOk P w K mg base CX0 k f fd ps sp
theorem OkfD.mono {P:Program} {w:World} {K:PySem.W.Frag} {mg:Str -> Option Value} {base:Heap} {j k:Nat} {x:Str} {ps:List Str} {dvs:List V} {sp:Sp} (o:OkfD P w K mg base j x ps dvs sp) (h:j <= k):OkfD P w K mg base k x ps dvs sp :=
  let ⟨f,fd,a,b,c,e,d⟩:=o.ex; ⟨f,fd,a,b,c,e,d.mono h⟩
theorem OkfD.f {P:Program} {w:World} {K:PySem.W.Frag} {mg:Str -> Option Value} {base:Heap} {k:Nat} {x:Str} {ps:List Str} {dvs:List V} {sp:Sp} (o:OkfD P w K mg base k x ps dvs sp):Okf P w K mg base k x ps sp :=
  let ⟨f,fd,a,b,c,_,d⟩:=o.ex; ⟨f,fd,a,b,c,d⟩
theorem OkfD.of {P:Program} {w:World} {K:PySem.W.Frag} {mg:Str -> Option Value} {base:Heap} {k:Nat} {x:Str} {st:Stmt} {N ps:List Str} {dvs:List V} {sp:Sp} (d:DfD K mg x st ps dvs) (S:FnScope N ps (defScope st)) (len:∀ vs H Q E,sp vs H Q E -> vs.length = ps.length)
    (hbody:∀ (f:Addr) (cdv:Value) (A:Around) (outer:List Env) (s:Shared) (H:Hp) (vs:List V) (Q:VK) (E:XK),Room k (A.deeper (envOfC x (defScope st) s.heap.objs.size f cdv)) -> sp vs H Q E ->
      ∃ t,PSs (cxOf CX0 P w K mg base N x (defScope st) f cdv A outer s H E).nox (defBody st) t /\ t { nx:=fun _ H' => Q .non H',rt:=Q } (start N vs) H):OkfD P w K mg base (k + 1) x ps dvs sp:=by
  obtain ⟨f,fd,⟨oc,od,dV,kV,doc,pm,an,cdv,ct,osl,rfl,lk,hcd⟩,kp,a,b,b2⟩:=d.ex
  refine ⟨f,_,a,kp,b,b2,fn_of lk hcd S len fun A outer s H vs Q E hr hsp => ?_⟩
  obtain ⟨t,h,q⟩:=hbody f cdv A outer s H vs Q E hr hsp
  exact ⟨t,h.nox,q⟩
section
variable {X:Cx} {k:Nat} {x:Str} {ps:List Str} {dvs:List V} {sp:Sp} {p pos:Pos} {e:Expr} {es:List Expr} {t:TA}
theorem r_callD {σ:St} {H:Hp} {Q:VK} {E:XK} {tr:TA} (k:tr σ H fun vs H1 => sp (vs ++ dvs) H1 Q E):tCall sp dvs E tr σ H Q:=k
end
section
variable {X:Cx} {k:Nat} {x:Str} {ps:List Str} {sp:Sp} {p pos:Pos} {e:Expr} {es:List Expr} {t:TA}
theorem pe_callO (o:Okf X.prog X.w X.K X.mg X.base k x ps sp) (hr:Room k X.A) (hg:Gl X x) (ha:PA X (e :: es) t) (hdb:(x == ("__debug__":Str)) = false:=by decide)
    (he:starEach (e :: es) X.env = (false,eval e X.env) :: starEach es X.env:=by rfl) (hpl:(backTo pos (starEach es X.env)).any (·.1) = false:=by rfl) :
    PE X (.Call (.Name x p) (e :: es) [] pos) (tCall sp [] E0 t):=by
  obtain ⟨f,fd,a,b,c,d⟩:=o.ex
  exact pe_call d hr hg a b c .nil pass0 ha hdb he hpl
end
section
variable {σ:St} {H:Hp} {Q:VK} {D:Ends} {v:V} {i j:Int} {K:PySem.W.Frag}
theorem r_ixs {p:Addr} {xs:List V} (h:SqL K H p xs) (e:atI xs i = some v) (k:Q v H):rIxLT K (.ref p) (.int i) H Q:=.inl (r_ixL h e k)
theorem r_mod (h:0 < j) (k:Q (.int (i % j)) H):rI (fun _ j => 0 < j) (fun i j => .int (i % j)) (.int i) (.int j) H Q:=r_I h k
theorem r_mul (h:CMulB i j) (k:Q (.int (i * j)) H):rI CMulB (fun i j => .int (i * j)) (.int i) (.int j) H Q:=r_I h k
theorem CDivB.of (h0:0 < j) (h1:j < 2 ^ 64):CDivB i j:=⟨by omega,Sm.mono (m:=64) (Sm.of (by omega) (by omega)) (by decide)⟩
theorem r_fdiv (h:CDivB i j) (k:Q (.int (i.fdiv j)) H):rI CDivB (fun i j => .int (i.fdiv j)) (.int i) (.int j) H Q:=r_I h k
theorem r_pow18 (k:Q (.int 1000000000000000000) H):rI CPow (fun i j => .int (i ^ j.toNat)) (.int 10) (.int 18) H Q:=r_I ⟨by decide,by decide,by decide⟩ k
theorem r_pow9 (k:Q (.int 1000000000) H):rI CPow (fun i j => .int (i ^ j.toNat)) (.int 10) (.int 9) H Q:=r_I ⟨by decide,by decide,by decide⟩ k
theorem r_gsub {to ti:TE} {t:TSet} {R:St -> Hp -> Prop} (k:to σ H fun o H1 => ti σ H1 fun i H2 => t o i v H2 fun H3 => R σ H3):gSub to ti t v σ H R:=k
theorem r_parK {n m:Nat} {w:V} (k:D.nx ((σ.set n (some v)).set m (some w)) H):∃ v' w',[v,w] = [v',w'] /\ D.nx ((σ.set n (some v')).set m (some w')) H:=⟨v,w,rfl,k⟩
theorem SqL.kp {p a:Addr} {H H0 H':Hp} {xs:List V} (h:SqL K H0 a xs) (hp:H0 p = none) (e:Kp p H0 H'):SqL K H' a xs:=by
  rcases h with (h | ⟨o,h⟩) | h
  . exact .inl (.inl (e _ _ (ne_of_none h hp) h))
  . exact .inl (.inr ⟨o,e _ _ (ne_of_none h hp) h⟩)
  . exact .inr h
end
theorem bt_int:bootBuiltins "int" = some (.type "int"):=by decide +kernel
theorem bt_bool:bootBuiltins "bool" = some (.type "bool"):=by decide +kernel
theorem bt_str:bootBuiltins "str" = some (.type "str"):=by decide +kernel
theorem bt_list:bootBuiltins "list" = some (.type "list"):=by decide +kernel
theorem bt_tuple:bootBuiltins "tuple" = some (.type "tuple"):=by decide +kernel
theorem bt_set:bootBuiltins "set" = some (.type "set"):=by decide +kernel
theorem bt_len:bootBuiltins "len" = some (.builtin "len"):=by decide +kernel
theorem bt_abs:bootBuiltins "abs" = some (.builtin "abs"):=by decide +kernel
theorem bt_max:bootBuiltins "max" = some (.builtin "max"):=by decide +kernel
theorem bt_min:bootBuiltins "min" = some (.builtin "min"):=by decide +kernel
theorem bt_isinstance:bootBuiltins "isinstance" = some (.builtin "isinstance"):=by decide +kernel
theorem bt_all:bootBuiltins "all" = some (.builtin "all"):=by decide +kernel
structure Bl (mg:Str -> Option Value):Prop where
  z_int:mg "int" = none
  z_bool:mg "bool" = none
  z_str:mg "str" = none
  z_list:mg "list" = none
  z_tuple:mg "tuple" = none
  z_dict:mg "dict" = none
  z_set:mg "set" = none
  z_range:mg "range" = none
  z_enumerate:mg "enumerate" = none
  z_zip:mg "zip" = none
  z_reversed:mg "reversed" = none
  z_len:mg "len" = none
  z_abs:mg "abs" = none
  z_max:mg "max" = none
  z_min:mg "min" = none
  z_isinstance:mg "isinstance" = none
  z_sorted:mg "sorted" = none
  z_all:mg "all" = none
  z_any:mg "any" = none
  z_sum:mg "sum" = none
section
variable {K:PySem.W.Frag} {H:Hp} {Q:VK}
theorem kit_bool_bool:PySem.W.kitOne K (.type "bool") (.type "bool") = some true:=by first | rfl | with_unfolding_all rfl | decide
theorem kit_bool_int:PySem.W.kitOne K (.type "bool") (.type "int") = some true:=by first | rfl | with_unfolding_all rfl | decide
theorem kit_bool_tuple:PySem.W.kitOne K (.type "bool") (.type "tuple") = some false:=by first | rfl | with_unfolding_all rfl | decide
theorem kit_int_bool:PySem.W.kitOne K (.type "int") (.type "bool") = some false:=by first | rfl | with_unfolding_all rfl | decide
theorem kit_int_int:PySem.W.kitOne K (.type "int") (.type "int") = some true:=by first | rfl | with_unfolding_all rfl | decide
theorem kit_int_str:PySem.W.kitOne K (.type "int") (.type "str") = some false:=by first | rfl | with_unfolding_all rfl | decide
theorem kit_int_tuple:PySem.W.kitOne K (.type "int") (.type "tuple") = some false:=by first | rfl | with_unfolding_all rfl | decide
theorem kit_str_bool:PySem.W.kitOne K (.type "str") (.type "bool") = some false:=by first | rfl | with_unfolding_all rfl | decide
theorem kit_str_int:PySem.W.kitOne K (.type "str") (.type "int") = some false:=by first | rfl | with_unfolding_all rfl | decide
theorem kit_str_str:PySem.W.kitOne K (.type "str") (.type "str") = some true:=by first | rfl | with_unfolding_all rfl | decide
theorem kit_str_tuple:PySem.W.kitOne K (.type "str") (.type "tuple") = some false:=by first | rfl | with_unfolding_all rfl | decide
theorem kit_tuple_tuple:PySem.W.kitOne K (.type "tuple") (.type "tuple") = some true:=by first | rfl | with_unfolding_all rfl | decide
theorem kit_list_str:PySem.W.kitOne K (.type "list") (.type "str") = some false:=by first | rfl | with_unfolding_all rfl | decide
theorem kit_list_tuple:PySem.W.kitOne K (.type "list") (.type "tuple") = some false:=by first | rfl | with_unfolding_all rfl | decide
theorem kit_list_list:PySem.W.kitOne K (.type "list") (.type "list") = some true:=by first | rfl | with_unfolding_all rfl | decide
theorem kit_NoneType_bool:PySem.W.kitOne K (.type "NoneType") (.type "bool") = some false:=by first | rfl | with_unfolding_all rfl | decide
theorem kit_NoneType_int:PySem.W.kitOne K (.type "NoneType") (.type "int") = some false:=by first | rfl | with_unfolding_all rfl | decide
theorem kit_NoneType_str:PySem.W.kitOne K (.type "NoneType") (.type "str") = some false:=by first | rfl | with_unfolding_all rfl | decide
theorem kit_NoneType_tuple:PySem.W.kitOne K (.type "NoneType") (.type "tuple") = some false:=by first | rfl | with_unfolding_all rfl | decide
theorem r_isTy {T:String} {x:V} {t:Value} {b:Bool} (ty:TyOf K H x t) (e:PySem.W.kitOne K t (.type T) = some b) (k:Q (.bl b) H):rIsTy K T [x,.ty T] H Q:=⟨x,t,b,rfl,ty,e,k⟩
end
section
variable {X:Cx} {K:PySem.W.Frag} {σ:St} {H:Hp} {Q:VK} {D:Ends} {i j:Int} {b:Bool}
noncomputable def rAbs:List V -> Hp -> VK -> Prop:=fun xs H Q => ∃ i,xs = [.int i] /\ Q (.int (if i < 0 then -i else i)) H
theorem c_abs:CallR X (.builtin "abs") rAbs:=call_abs
theorem r_abs (k:Q (.int (if i < 0 then -i else i)) H):rAbs [.int i] H Q:=⟨i,rfl,k⟩
noncomputable def rMax2:List V -> Hp -> VK -> Prop:=fun xs H Q => ∃ i j,xs = [.int i,.int j] /\ Q (.int (if j > i then j else i)) H
theorem c_max (hc:X.calm = true):CallR X (.builtin "max") rMax2:=call_max2 hc
theorem r_max (k:Q (.int (if j > i then j else i)) H):rMax2 [.int i,.int j] H Q:=⟨i,j,rfl,k⟩
noncomputable def rMin2:List V -> Hp -> VK -> Prop:=fun xs H Q => ∃ i j,xs = [.int i,.int j] /\ Q (.int (if j < i then j else i)) H
theorem c_min (hc:X.calm = true):CallR X (.builtin "min") rMin2:=call_min2 hc
theorem r_min (k:Q (.int (if j < i then j else i)) H):rMin2 [.int i,.int j] H Q:=⟨i,j,rfl,k⟩
noncomputable def rLen (K:PySem.W.Frag):List V -> Hp -> VK -> Prop:=fun xs H Q => ∃ x n,xs = [x] /\ LenV K x H n /\ Q (.int n) H
theorem c_len:CallR X (.builtin "len") (rLen X.K):=call_len
theorem r_lenL {p:Addr} {xs:List V} (h:SqL K H p xs) (k:Q (.int xs.length) H):rLen K [.ref p] H Q:=⟨_,_,rfl,.inl ⟨xs,h,rfl⟩,k⟩
theorem r_lenl {p:Addr} {xs:List V} (h:H p = some (.lst xs)) (k:Q (.int xs.length) H):rLen K [.ref p] H Q:=r_lenL (SqL.of h) k
theorem r_lent {p:Addr} {xs:List V} (h:H p = some (.tup xs)) (k:Q (.int xs.length) H):rLen K [.ref p] H Q:=⟨_,_,rfl,.inr ⟨xs,SqT.of h,rfl⟩,k⟩
theorem r_lens {x:Str} (h:x.length <= sizeLine) (k:Q (.int x.length) H):rLen K [.str x] H Q:=⟨_,_,rfl,⟨h,rfl⟩,k⟩
noncomputable def rInt1:List V -> Hp -> VK -> Prop:=fun xs H Q => (∃ i,xs = [.int i] /\ Q (.int i) H) ∨ ∃ k,xs = [.bl k] /\ Q (.int (if k then 1 else 0)) H
theorem r_intB (k:Q (.int (if b then 1 else 0)) H):rInt1 [.bl b] H Q:=.inr ⟨b,rfl,k⟩
noncomputable def forK (g:TG) (tb:TS) (D:Ends) (σ:St):It -> Hp -> Prop:=fun J H1 => ∃ W:Nat -> Nat -> St -> Hp -> Prop,(∃ m,W 0 m σ H1) /\ ∀ i m σ H,W i m σ H ->
  (J.stop i H /\ D.nx σ H) ∨ (J.go i H /\ ∃ N:St -> Hp -> Prop,(∀ σ' H',N σ' H' -> ∃ m',m' < m /\ W (i + 1) m' σ' H') /\ ∀ x H',J.yld i H x H' -> g x σ H' fun σ2 H2 => tb { D with nx:=N,ct:=N,bk:=D.nx } σ2 H2)
theorem r_for {wi:TI} {g:TG} {tb:TS} (k:wi σ H (forK g tb D σ)):tFor wi g tb D σ H:=k
noncomputable def rng1K (R:It -> Hp -> Prop):List V -> Hp -> Prop:=fun vs H1 => ∃ j:Int,vs = [.int j] /\ -(2 ^ 62) <= j /\ j < 2 ^ 62 /\ R (Itr 0 j.toNat) H1
noncomputable def rng2K (R:It -> Hp -> Prop):List V -> Hp -> Prop:=fun vs H1 => ∃ i j:Int,vs = [.int i,.int j] /\ (-(2 ^ 62) <= i /\ i < 2 ^ 62 /\ -(2 ^ 62) <= j /\ j < 2 ^ 62) /\ R (Itr i (j - i).toNat) H1
theorem r_rng1 {ta:TA} {R:It -> Hp -> Prop} (k:ta σ H (rng1K R)):iRng1 ta σ H R:=k
theorem r_rng2 {ta:TA} {R:It -> Hp -> Prop} (k:ta σ H (rng2K R)):iRng2 ta σ H R:=k
theorem r_rng1K {R:It -> Hp -> Prop} (h1:-(2 ^ 62) <= j) (h2:j < 2 ^ 62) (k:R (Itr 0 j.toNat) H):rng1K R [.int j] H:=⟨j,rfl,h1,h2,k⟩
theorem r_rng2K {R:It -> Hp -> Prop} (h1:-(2 ^ 62) <= i) (h2:i < 2 ^ 62) (h3:-(2 ^ 62) <= j) (h4:j < 2 ^ 62) (k:R (Itr i (j - i).toNat) H):rng2K R [.int i,.int j] H:=⟨i,j,rfl,⟨h1,h2,h3,h4⟩,k⟩
theorem r_forR {lo:Int} {n:Nat} {g:TG} {tb:TS} (Pv:Nat -> St -> Hp -> Prop) (h0:Pv 0 σ H)
    (hs:∀ i σ H,i < n -> Pv i σ H -> g (.int (lo + i)) σ H fun σ2 H2 => tb ⟨Pv (i + 1),D.rt,D.nx,Pv (i + 1)⟩ σ2 H2) (hd:∀ σ H,Pv n σ H -> D.nx σ H):forK g tb D σ (Itr lo n) H:=for_range Pv h0 hs hd
noncomputable def listK (K:PySem.W.Frag) (R:It -> Hp -> Prop):VK:=fun x H1 => ∃ a,x = .ref a /\ (∃ xs,SqL K H1 a xs) /\ R (Itl K a) H1
theorem r_iList {tl:TE} {R:It -> Hp -> Prop} (k:tl σ H (listK K R)):iList K tl σ H R:=k
theorem r_listK {a:Addr} {xs:List V} {R:It -> Hp -> Prop} (h:SqL K H a xs) (k:R (Itl K a) H):listK K R (.ref a) H:=⟨a,rfl,⟨xs,h⟩,k⟩
theorem r_forL {a:Addr} {xs:List V} {g:TG} {tb:TS} (Pv:Nat -> St -> Hp -> Prop) (h0:Pv 0 σ H) (hl:∀ i σ H,i <= xs.length -> Pv i σ H -> SqL K H a xs)
    (hs:∀ i x σ H,xs[i]? = some x -> Pv i σ H -> g x σ H fun σ2 H2 => tb ⟨Pv (i + 1),D.rt,D.nx,Pv (i + 1)⟩ σ2 H2) (hd:∀ σ H,Pv xs.length σ H -> D.nx σ H):forK g tb D σ (Itl K a) H:=for_list Pv h0 hl hs hd
end
end L2
namespace L2
open PySem
noncomputable def sg (t b:Int):Int:=if b < 0 then 0 - (Int.gcd t b:Int) else (Int.gcd t b:Int)
noncomputable def lowT (t b:Int):Int:=t.fdiv (sg t b)
noncomputable def lowB (t b:Int):Int:=b.fdiv (sg t b)
theorem gcd_pos {t b:Int} (h:b ≠ 0):0 < Int.gcd t b:=Nat.pos_of_ne_zero fun e => h (Int.gcd_eq_zero_iff.mp e).2
theorem sg_ne {t b:Int} (h:b ≠ 0):sg t b ≠ 0:=by
  have:=gcd_pos (t:=t) h
  unfold sg
  split <;> omega
theorem sg_dvd_l (t b:Int):sg t b ∣ t:=by
  unfold sg
  split
  . exact (Int.zero_sub _ ▸ Int.neg_dvd.mpr (Int.gcd_dvd_left ..))
  . exact Int.gcd_dvd_left ..
theorem sg_dvd_r (t b:Int):sg t b ∣ b:=by
  unfold sg
  split
  . exact (Int.zero_sub _ ▸ Int.neg_dvd.mpr (Int.gcd_dvd_right ..))
  . exact Int.gcd_dvd_right ..
theorem fdiv_of {a g:Int} (hg:g ≠ 0) (h:g ∣ a):a.fdiv g * g = a:=by
  obtain ⟨c,rfl⟩:=h
  rw [Int.mul_fdiv_cancel_left _ hg,Int.mul_comm]
theorem lowT_mul {t b:Int} (h:b ≠ 0):lowT t b * sg t b = t:=fdiv_of (sg_ne h) (sg_dvd_l t b)
theorem lowB_mul {t b:Int} (h:b ≠ 0):lowB t b * sg t b = b:=fdiv_of (sg_ne h) (sg_dvd_r t b)
theorem sg_natAbs (t b:Int):(sg t b).natAbs = Int.gcd t b:=by
  unfold sg
  split <;> omega
theorem lowB_pos {t b:Int} (h:b ≠ 0):0 < lowB t b:=by
  have e:=lowB_mul (t:=t) h
  have hp:=gcd_pos (t:=t) h
  by_cases hb:b < 0
  . have hs:sg t b < 0:=by unfold sg; rw [if_pos hb]; omega
    rcases Int.lt_or_le 0 (lowB t b) with q | q
    . exact q
    . have:0 <= lowB t b * sg t b:=Int.mul_nonneg_of_nonpos_of_nonpos q (Int.le_of_lt hs)
      omega
  . have hs:0 < sg t b:=by unfold sg; rw [if_neg hb]; omega
    rcases Int.lt_or_le 0 (lowB t b) with q | q
    . exact q
    . have:lowB t b * sg t b <= 0:=Int.mul_nonpos_of_nonpos_of_nonneg q (Int.le_of_lt hs)
      omega
theorem low_cop {t b:Int} (h:b ≠ 0):Int.gcd (lowT t b) (lowB t b) = 1:=by
  have e1:=lowT_mul (t:=t) h
  have e2:=lowB_mul (t:=t) h
  have hp:=gcd_pos (t:=t) h
  have e:Int.gcd (lowT t b * sg t b) (lowB t b * sg t b) = Int.gcd (lowT t b) (lowB t b) * (sg t b).natAbs:=Int.gcd_mul_right ..
  rw [e1,e2,sg_natAbs] at e
  have:1 * Int.gcd t b = Int.gcd (lowT t b) (lowB t b) * Int.gcd t b:=by omega
  exact (Nat.eq_of_mul_eq_mul_right hp this).symm
theorem low_cross {t b:Int} (h:b ≠ 0):t * lowB t b = b * lowT t b:=by
  have e1:=lowT_mul (t:=t) h
  have e2:=lowB_mul (t:=t) h
  calc t * lowB t b = (lowT t b * sg t b) * lowB t b:=by rw [e1]
    _ = (lowB t b * sg t b) * lowT t b:=by rw [Int.mul_assoc,Int.mul_comm (sg t b),← Int.mul_assoc,Int.mul_comm (lowT t b),Int.mul_assoc,Int.mul_comm (lowT t b),← Int.mul_assoc]
    _ = b * lowT t b:=by rw [e2]
theorem natAbs_le_of_mul {a g c:Int} (hg:g ≠ 0) (e:a * g = c):a.natAbs <= c.natAbs:=by
  rw [← e,Int.natAbs_mul]
  exact Nat.le_mul_of_pos_right _ (by omega)
theorem lowT_le {t b:Int} (h:b ≠ 0):(lowT t b).natAbs <= t.natAbs:=natAbs_le_of_mul (sg_ne h) (lowT_mul h)
theorem lowB_le {t b:Int} (h:b ≠ 0):(lowB t b).natAbs <= b.natAbs:=natAbs_le_of_mul (sg_ne h) (lowB_mul h)
theorem gcd_step {one other:Int} (h:0 < other):Int.gcd other (one % other) = Int.gcd one other:=by
  have e:one % other = one - (one / other) * other:=by rw [Int.emod_def,Int.mul_comm]
  rw [e,Int.gcd_comm other,Int.gcd_sub_mul_right_left]
theorem gcd_stepN {one other:Int} (h:other ≠ 0):Int.gcd other (one.fmod other) = Int.gcd one other:=by
  have e:one.fmod other = one - (one.fdiv other) * other:=by rw [Int.fmod_def,Int.mul_comm]
  rw [e,Int.gcd_comm other,Int.gcd_sub_mul_right_left]
theorem pick {ns:List Int} {i:Int} (h0:0 <= i) (h1:i < ns.length):∃ z,z ∈ ns /\ atI (ns.map V.int) i = some (.int z):=by
  have hk:i.toNat < ns.length:=by omega
  have ek:i = ((i.toNat:Nat):Int):=by omega
  have q:atI (ns.map V.int) ((i.toNat:Nat):Int) = some (.int ns[i.toNat]):=atI_nat (by rw [List.getElem?_map,List.getElem?_eq_getElem hk] <;> rfl)
  rw [← ek] at q
  exact ⟨ns[i.toNat],List.getElem_mem hk,q⟩
theorem fdiv_nn {a b:Int} (ha:0 <= a) (hb:0 < b):0 <= a.fdiv b:=by
  rw [Int.fdiv_eq_ediv_of_nonneg _ (Int.le_of_lt hb)]
  exact Int.ediv_nonneg ha (Int.le_of_lt hb)
theorem r_modN {i j:Int} {H:Hp} {Q:VK} (h:j ≠ 0) (k:Q (.int (i.fmod j)) H):rI (fun _ j => j ≠ 0) (fun i j => .int (i.fmod j)) (.int i) (.int j) H Q:=r_I h k
theorem fmod_lt {a b:Int} (h:b ≠ 0):(a.fmod b).natAbs < b.natAbs:=by
  have e:=Int.fmod_eq_emod (a:=a) (b:=b)
  have h1:=Int.emod_nonneg a h
  have h2:=Int.emod_lt a h
  rw [e]
  by_cases hc:0 <= b ∨ b ∣ a
  . rw [if_pos hc]
    omega
  . rw [if_neg hc]
    have h3:a % b ≠ 0:=fun z => hc (.inr (Int.dvd_of_emod_eq_zero z))
    omega
noncomputable def frV:V -> V -> Bool
  | .int a,.int b => decide (1 <= b) && decide (Int.gcd a b = 1)
  | _,_ => false
theorem low_worth {t b:Int} (h:b ≠ 0):lowT t b * b = t * lowB t b:=by rw [low_cross h,Int.mul_comm]
structure Fq (H:Hp) (v:V) (a b:Int) (n:Nat):Prop where
  st:Fr2 H v a b
  pos:0 < b
  cop:Int.gcd a b = 1
  sa:Sm n a
  sb:Sm n b
theorem Fq.same {H H':Hp} {v:V} {a b:Int} {n:Nat} (h:Fq H v a b n) (s:Same H H'):Fq H' v a b n:=⟨h.st.same s,h.pos,h.cop,h.sa,h.sb⟩
theorem Fq.mono {H:Hp} {v:V} {a b:Int} {m n:Nat} (h:Fq H v a b m) (l:m <= n):Fq H v a b n:=⟨h.st,h.pos,h.cop,h.sa.mono l,h.sb.mono l⟩
theorem Fq.low {H:Hp} {p:Addr} {t b:Int} {n:Nat} (h:H p = some (.tup [.int (lowT t b),.int (lowB t b)])) (hb:b ≠ 0) (ht:Sm n t) (hs:Sm n b):Fq H (.ref p) (lowT t b) (lowB t b) n :=
  ⟨⟨p,rfl,h⟩,lowB_pos hb,low_cop hb,Sm.le (lowT_le hb) ht,Sm.le (lowB_le hb) hs⟩
end L2
namespace L2
open PySem PySem.Spec PyProof.Rows
inductive Dt where
  | non | bl (b:Bool) | int (i:Int) | str (x:Str) | tup (xs:List Dt) | lst (xs:List Dt)
mutual
noncomputable def Den (H:Hp):Dt -> V -> Prop
  | .non,v => v = .non
  | .bl b,v => v = .bl b
  | .int i,v => v = .int i
  | .str x,v => v = .str x
  | .tup ds,v => ∃ p vs,v = .ref p /\ H p = some (.tup vs) /\ DenL H ds vs
  | .lst ds,v => ∃ p vs,v = .ref p /\ H p = some (.lst vs) /\ DenL H ds vs
noncomputable def DenL (H:Hp):List Dt -> List V -> Prop
  | [],vs => vs = []
  | d :: ds,vs => ∃ v r,vs = v :: r /\ Den H d v /\ DenL H ds r
end
mutual
noncomputable def deq:Dt -> Dt -> Bool
  | .non,.non => true
  | .bl a,.bl b => a == b
  | .bl a,.int b => (if a then 1 else 0) == b
  | .int a,.bl b => a == (if b then 1 else 0)
  | .int a,.int b => a == b
  | .str a,.str b => a == b
  | .tup xs,.tup ys => deqL xs ys
  | .lst xs,.lst ys => deqL xs ys
  | _,_ => false
noncomputable def deqL:List Dt -> List Dt -> Bool
  | [],[] => true
  | x :: xs,y :: ys => deq x y && deqL xs ys
  | _,_ => false
end
mutual
noncomputable def dep:Dt -> Nat
  | .tup xs => depL xs + 1
  | .lst xs => depL xs + 1
  | _ => 0
noncomputable def depL:List Dt -> Nat
  | [] => 0
  | x :: xs => max (dep x) (depL xs)
end
theorem DenL.length {H:Hp}:∀ {ds:List Dt} {vs:List V},DenL H ds vs -> ds.length = vs.length
  | [],vs,h => by rw [show vs = [] from h]; rfl
  | d :: ds,vs,h => by
    obtain ⟨v,r,rfl,_,t⟩:=h
    rw [List.length_cons,List.length_cons,DenL.length t]
mutual
theorem Den.same_eq {H:Hp}:∀ (d e:Dt) {x:V},Den H d x -> Den H e x -> deq d e = true
  | .tup ds,.tup es,x,h1,h2 => by
    obtain ⟨p,vs,rfl,a,b⟩:=h1
    obtain ⟨q,ws,e1,c,d⟩:=h2
    cases e1
    rw [a] at c
    cases c
    exact DenL.same_eq ds es b d
  | .lst ds,.lst es,x,h1,h2 => by
    obtain ⟨p,vs,rfl,a,b⟩:=h1
    obtain ⟨q,ws,e1,c,d⟩:=h2
    cases e1
    rw [a] at c
    cases c
    exact DenL.same_eq ds es b d
  | .tup ds,.lst es,x,h1,h2 => by
    obtain ⟨p,vs,rfl,a,b⟩:=h1
    obtain ⟨q,ws,e1,c,d⟩:=h2
    cases e1
    rw [a] at c
    cases c
  | .lst ds,.tup es,x,h1,h2 => by
    obtain ⟨p,vs,rfl,a,b⟩:=h1
    obtain ⟨q,ws,e1,c,d⟩:=h2
    cases e1
    rw [a] at c
    cases c
  | .non,e,x,h1,h2 => by
    have h1:x = .non:=h1
    subst h1
    cases e <;> first | rfl | (have h2:V.non = _:=h2; cases h2) | (obtain ⟨_,_,z,_⟩:=h2; cases z)
  | .bl b,e,x,h1,h2 => by
    have h1:x = .bl b:=h1
    subst h1
    cases e <;> first | (have h2:V.bl b = _:=h2; cases h2; exact beq_self_eq_true b) | (have h2:V.bl b = _:=h2; cases h2; done) | (obtain ⟨_,_,z,_⟩:=h2; cases z)
  | .int b,e,x,h1,h2 => by
    have h1:x = .int b:=h1
    subst h1
    cases e <;> first | (have h2:V.int b = _:=h2; cases h2; exact beq_self_eq_true b) | (have h2:V.int b = _:=h2; cases h2; done) | (obtain ⟨_,_,z,_⟩:=h2; cases z)
  | .str b,e,x,h1,h2 => by
    have h1:x = .str b:=h1
    subst h1
    cases e <;> first | (have h2:V.str b = _:=h2; cases h2; exact beq_self_eq_true b) | (have h2:V.str b = _:=h2; cases h2; done) | (obtain ⟨_,_,z,_⟩:=h2; cases z)
  | .tup ds,.non,x,h1,h2 => by obtain ⟨p,vs,rfl,_⟩:=h1; have h2:V.ref p = _:=h2; cases h2
  | .tup ds,.bl _,x,h1,h2 => by obtain ⟨p,vs,rfl,_⟩:=h1; have h2:V.ref p = _:=h2; cases h2
  | .tup ds,.int _,x,h1,h2 => by obtain ⟨p,vs,rfl,_⟩:=h1; have h2:V.ref p = _:=h2; cases h2
  | .tup ds,.str _,x,h1,h2 => by obtain ⟨p,vs,rfl,_⟩:=h1; have h2:V.ref p = _:=h2; cases h2
  | .lst ds,.non,x,h1,h2 => by obtain ⟨p,vs,rfl,_⟩:=h1; have h2:V.ref p = _:=h2; cases h2
  | .lst ds,.bl _,x,h1,h2 => by obtain ⟨p,vs,rfl,_⟩:=h1; have h2:V.ref p = _:=h2; cases h2
  | .lst ds,.int _,x,h1,h2 => by obtain ⟨p,vs,rfl,_⟩:=h1; have h2:V.ref p = _:=h2; cases h2
  | .lst ds,.str _,x,h1,h2 => by obtain ⟨p,vs,rfl,_⟩:=h1; have h2:V.ref p = _:=h2; cases h2
theorem DenL.same_eq {H:Hp}:∀ (ds es:List Dt) {xs:List V},DenL H ds xs -> DenL H es xs -> deqL ds es = true
  | [],[],xs,_,_ => rfl
  | [],e :: es,xs,h1,h2 => by
    have h1:xs = []:=h1
    subst h1
    obtain ⟨_,_,z,_⟩:=h2
    cases z
  | d :: ds,[],xs,h1,h2 => by
    have h2:xs = []:=h2
    subst h2
    obtain ⟨_,_,z,_⟩:=h1
    cases z
  | d :: ds,e :: es,xs,h1,h2 => by
    obtain ⟨v,r,rfl,a,b⟩:=h1
    obtain ⟨v',r',z,a',b'⟩:=h2
    cases z
    show (deq d e && deqL ds es) = true
    rw [Den.same_eq d e a a',DenL.same_eq ds es b b']
    rfl
end
noncomputable def nth (ds es:List Dt) (j:Nat):Bool:=match ds[j]?,es[j]? with
  | some d,some e => deq d e
  | _,_ => false
theorem deqL_all:∀ (ds es:List Dt),((List.range (min ds.length es.length)).all (nth ds es) && ds.length == es.length) = deqL ds es
  | [],[] => rfl
  | [],e :: es => by show (_ && (0 == es.length + 1)) = false; simp
  | d :: ds,[] => by show (_ && (ds.length + 1 == 0)) = false; simp
  | d :: ds,e :: es => by
    have ih:=deqL_all ds es
    show _ = (deq d e && deqL ds es)
    rw [← ih]
    have h1:min (d :: ds).length (e :: es).length = min ds.length es.length + 1:=by simp only [List.length_cons]; omega
    rw [h1,List.range_succ_eq_map,List.all_cons,List.all_map]
    have h2:(nth (d :: ds) (e :: es)) ∘ Nat.succ = nth ds es:=by funext j; rfl
    rw [h2]
    have h3:nth (d :: ds) (e :: es) 0 = deq d e:=rfl
    rw [h3]
    have h4:((d :: ds).length == (e :: es).length) = (ds.length == es.length):=by simp
    rw [h4,Bool.and_assoc]
section
variable {X:Cx} {pins:List (Addr×Obj)} {σ:St} {H:Hp} {s:Shared}
theorem tup_at (I:Inv X pins σ H s) {p:Addr} {vs:List V} (h:H p = some (.tup vs)):∃ its:List Value,Vals vs its /\ s.heap.IsTuple p its.toArray:=by
  obtain ⟨_,its,r,q⟩:=(show ObjOk X.prog X.w H s.heap p (.tup vs) from I.hok p _ h)
  exact ⟨its,r,q⟩
theorem lst_at (I:Inv X pins σ H s) {p:Addr} {vs:List V} (h:H p = some (.lst vs)):∃ its:List Value,Vals vs its /\ s.heap.IsList p its.toArray:=by
  obtain ⟨_,its,n,r,q⟩:=(show ObjOk X.prog X.w H s.heap p (.lst vs) from I.hok p _ h)
  exact ⟨its,r,_,q,rfl,_,rfl⟩
theorem in1_tup {A:Around} {ds:List Dt} (h:A.units + dep (.tup ds) < cLine):A.in1.units + depL ds < cLine:=by
  have e:dep (.tup ds) = depL ds + 1:=by simp [dep]
  show A.units + 1 + depL ds < cLine
  omega
theorem in1_lst {A:Around} {ds:List Dt} (h:A.units + dep (.lst ds) < cLine):A.in1.units + depL ds < cLine:=by
  have e:dep (.lst ds) = depL ds + 1:=by simp [dep]
  show A.units + 1 + depL ds < cLine
  omega
mutual
theorem eqAt_D (I:Inv X pins σ H s):∀ (d e:Dt) {x y:V} {u v:Value} {A:Around},Den H d x -> Den H e y -> RelV x u -> RelV y v -> A.units + dep d < cLine -> SeqAt.EqAt A s u v (deq d e)
  | .tup ds,e,x,y,u,v,A,h1,h2,rx,ry,hu => by
    obtain ⟨p,vs,rfl,a,b⟩:=h1
    cases rx
    obtain ⟨its,r,t⟩:=tup_at I a
    have hu':A.units < cLine:=by omega
    cases e with
    | tup es =>
      obtain ⟨q,ws,rfl,a',b'⟩:=id h2
      cases ry
      by_cases hne:p = q
      . subst hne
        have:=Den.same_eq (.tup ds) (.tup es) (x:=.ref p) ⟨p,vs,rfl,a,b⟩ h2
        rw [this]
        exact SeqAt.EqAt.same _
      . obtain ⟨its',r',t'⟩:=tup_at I a'
        have z:=SeqAt.RcAt.tuples (e:=nth ds es) t t' hu' (fun j g1 g2 => eqAt_L I ds es b b' r r' (in1_tup hu) j (by simpa using g1) (by simpa using g2))
        have l1:its.length = ds.length:=by rw [b.length,r.length]
        have l2:its'.length = es.length:=by rw [b'.length,r'.length]
        rw [List.size_toArray,List.size_toArray,l1,l2,deqL_all] at z
        exact SeqAt.EqAt.of_refs hne z
    | lst es =>
      obtain ⟨q,ws,rfl,a',b'⟩:=id h2
      cases ry
      obtain ⟨its',r',t'⟩:=lst_at I a'
      exact SeqAt.EqAt.tuple_list t t' hu'
    | non => cases (show y = .non from h2); cases ry; exact SeqAt.EqAt.tuple_none t hu'
    | bl b => cases (show y = .bl b from h2); cases ry; exact SeqAt.EqAt.tuple_bool b t hu'
    | int b => cases (show y = .int b from h2); obtain ⟨tk,rfl⟩:=ry; exact SeqAt.EqAt.tuple_int b tk t hu'
    | str b => cases (show y = .str b from h2); obtain ⟨tk,rfl⟩:=ry; exact SeqAt.EqAt.tuple_str b tk t hu'
  | .lst ds,e,x,y,u,v,A,h1,h2,rx,ry,hu => by
    obtain ⟨p,vs,rfl,a,b⟩:=h1
    cases rx
    obtain ⟨its,r,t⟩:=lst_at I a
    have hu':A.units < cLine:=by omega
    cases e with
    | lst es =>
      obtain ⟨q,ws,rfl,a',b'⟩:=id h2
      cases ry
      by_cases hne:p = q
      . subst hne
        have:=Den.same_eq (.lst ds) (.lst es) (x:=.ref p) ⟨p,vs,rfl,a,b⟩ h2
        rw [this]
        exact SeqAt.EqAt.same _
      . obtain ⟨its',r',t'⟩:=lst_at I a'
        have l1:its.length = ds.length:=by rw [b.length,r.length]
        have l2:its'.length = es.length:=by rw [b'.length,r'.length]
        by_cases hl:ds.length = es.length
        . have z:=SeqAt.RcAt.lists (e:=nth ds es) t t' (by rw [List.size_toArray,List.size_toArray,l1,l2,hl]) hu' (fun j g1 g2 => eqAt_L I ds es b b' r r' (in1_lst hu) j (by simpa using g1) (by simpa using g2))
          have e1:=deqL_all ds es
          rw [hl,Nat.min_self,beq_self_eq_true,Bool.and_true] at e1
          rw [List.size_toArray,l1,hl,e1] at z
          exact SeqAt.EqAt.of_refs hne z
        . have z:=SeqAt.RcAt.lists_lengths t t' (by rw [List.size_toArray,List.size_toArray,l1,l2]; simpa using hl) hu'
          have e1:=deqL_all ds es
          rw [show (ds.length == es.length) = false from by simpa using hl,Bool.and_false] at e1
          have e2:deq (.lst ds) (.lst es) = false:=by show deqL ds es = false; exact e1.symm
          rw [e2]
          exact SeqAt.EqAt.of_refs hne z
    | tup es =>
      obtain ⟨q,ws,rfl,a',b'⟩:=id h2
      cases ry
      obtain ⟨its',r',t'⟩:=tup_at I a'
      exact SeqAt.EqAt.list_tuple t t' hu'
    | non => cases (show y = .non from h2); cases ry; exact SeqAt.EqAt.list_none t hu'
    | bl b => cases (show y = .bl b from h2); cases ry; exact SeqAt.EqAt.list_bool b t hu'
    | int b => cases (show y = .int b from h2); obtain ⟨tk,rfl⟩:=ry; exact SeqAt.EqAt.list_int b tk t hu'
    | str b => cases (show y = .str b from h2); obtain ⟨tk,rfl⟩:=ry; exact SeqAt.EqAt.list_str b tk t hu'
  | .non,e,x,y,u,v,A,h1,h2,rx,ry,hu => by
    cases (show x = .non from h1); cases rx
    have hu':A.units < cLine:=by omega
    cases e with
    | tup es => obtain ⟨q,ws,rfl,a',b'⟩:=id h2; cases ry; obtain ⟨its',r',t'⟩:=tup_at I a'; exact SeqAt.EqAt.none_tuple t' hu'
    | lst es => obtain ⟨q,ws,rfl,a',b'⟩:=id h2; cases ry; obtain ⟨its',r',t'⟩:=lst_at I a'; exact SeqAt.EqAt.none_list t' hu'
    | non => cases (show y = .non from h2); cases ry; exact SeqAt.EqAt.same _
    | bl b => cases (show y = .bl b from h2); cases ry; exact SeqAt.EqAt.none_bool b
    | int b => cases (show y = .int b from h2); obtain ⟨tk,rfl⟩:=ry; exact SeqAt.EqAt.none_int b tk
    | str b => cases (show y = .str b from h2); obtain ⟨tk,rfl⟩:=ry; exact SeqAt.EqAt.none_str b tk
  | .bl c,e,x,y,u,v,A,h1,h2,rx,ry,hu => by
    cases (show x = .bl c from h1); cases rx
    have hu':A.units < cLine:=by omega
    cases e with
    | tup es => obtain ⟨q,ws,rfl,a',b'⟩:=id h2; cases ry; obtain ⟨its',r',t'⟩:=tup_at I a'; exact SeqAt.EqAt.bool_tuple c t' hu'
    | lst es => obtain ⟨q,ws,rfl,a',b'⟩:=id h2; cases ry; obtain ⟨its',r',t'⟩:=lst_at I a'; exact SeqAt.EqAt.bool_list c t' hu'
    | non => cases (show y = .non from h2); cases ry; exact SeqAt.EqAt.bool_none c
    | bl b => cases (show y = .bl b from h2); cases ry; exact SeqAt.EqAt.bool_bool c b
    | int b => cases (show y = .int b from h2); obtain ⟨tk,rfl⟩:=ry; exact SeqAt.EqAt.bool_int c b tk
    | str b => cases (show y = .str b from h2); obtain ⟨tk,rfl⟩:=ry; exact SeqAt.EqAt.bool_str c b tk
  | .int c,e,x,y,u,v,A,h1,h2,rx,ry,hu => by
    cases (show x = .int c from h1); obtain ⟨tc,rfl⟩:=rx
    have hu':A.units < cLine:=by omega
    cases e with
    | tup es => obtain ⟨q,ws,rfl,a',b'⟩:=id h2; cases ry; obtain ⟨its',r',t'⟩:=tup_at I a'; exact SeqAt.EqAt.int_tuple c tc t' hu'
    | lst es => obtain ⟨q,ws,rfl,a',b'⟩:=id h2; cases ry; obtain ⟨its',r',t'⟩:=lst_at I a'; exact SeqAt.EqAt.int_list c tc t' hu'
    | non => cases (show y = .non from h2); cases ry; exact SeqAt.EqAt.int_none c tc
    | bl b => cases (show y = .bl b from h2); cases ry; exact SeqAt.EqAt.int_bool c tc b
    | int b => cases (show y = .int b from h2); obtain ⟨tk,rfl⟩:=ry; exact SeqAt.EqAt.int_int c tc b tk
    | str b => cases (show y = .str b from h2); obtain ⟨tk,rfl⟩:=ry; exact SeqAt.EqAt.int_str c tc b tk
  | .str c,e,x,y,u,v,A,h1,h2,rx,ry,hu => by
    cases (show x = .str c from h1); obtain ⟨tc,rfl⟩:=rx
    have hu':A.units < cLine:=by omega
    cases e with
    | tup es => obtain ⟨q,ws,rfl,a',b'⟩:=id h2; cases ry; obtain ⟨its',r',t'⟩:=tup_at I a'; exact SeqAt.EqAt.str_tuple c tc t' hu'
    | lst es => obtain ⟨q,ws,rfl,a',b'⟩:=id h2; cases ry; obtain ⟨its',r',t'⟩:=lst_at I a'; exact SeqAt.EqAt.str_list c tc t' hu'
    | non => cases (show y = .non from h2); cases ry; exact SeqAt.EqAt.str_none c tc
    | bl b => cases (show y = .bl b from h2); cases ry; exact SeqAt.EqAt.str_bool c tc b
    | int b => cases (show y = .int b from h2); obtain ⟨tk,rfl⟩:=ry; exact SeqAt.EqAt.str_int c tc b tk
    | str b => cases (show y = .str b from h2); obtain ⟨tk,rfl⟩:=ry; exact SeqAt.EqAt.str_str c tc b tk
theorem eqAt_L (I:Inv X pins σ H s):∀ (ds es:List Dt) {xs ys:List V} {us vs:List Value} {A:Around},DenL H ds xs -> DenL H es ys -> Vals xs us -> Vals ys vs -> A.units + depL ds < cLine ->
    ∀ (j:Nat) (g1:j < us.length) (g2:j < vs.length),SeqAt.EqAt A s us[j] vs[j] (nth ds es j)
  | [],es,xs,ys,us,vs,A,h1,h2,r1,r2,hu => fun j g1 g2 => by
    have h1:xs = []:=h1
    subst h1
    cases r1
    exact absurd g1 (Nat.not_lt_zero _)
  | d :: ds,[],xs,ys,us,vs,A,h1,h2,r1,r2,hu => fun j g1 g2 => by
    have h2:ys = []:=h2
    subst h2
    cases r2
    exact absurd g2 (Nat.not_lt_zero _)
  | d :: ds,e :: es,xs,ys,us,vs,A,h1,h2,r1,r2,hu => fun j g1 g2 => by
    obtain ⟨x,xr,rfl,a,b⟩:=h1
    obtain ⟨y,yr,rfl,a',b'⟩:=h2
    cases r1 with
    | cons rx r1 =>
      cases r2 with
      | cons ry r2 =>
        have hd:depL (d :: ds) = max (dep d) (depL ds):=by simp [depL]
        cases j with
        | zero => exact eqAt_D I d e a a' rx ry (by omega)
        | succ j => exact eqAt_L I ds es b b' r1 r2 (by omega) j (by simpa using g1) (by simpa using g2)
end
noncomputable def rEqD:R2:=fun x y H Q => ∃ d e,Den H d x /\ Den H e y /\ dep d <= 60 /\ ((∃ ds es,d = .tup ds /\ e = .tup es) ∨ ∃ ds es,d = .lst ds /\ e = .lst es) /\ Q (.bl (deq d e)) H
noncomputable def rNeD:R2:=fun x y H Q => ∃ d e,Den H d x /\ Den H e y /\ dep d <= 60 /\ ((∃ ds es,d = .tup ds /\ e = .tup es) ∨ ∃ ds es,d = .lst ds /\ e = .lst es) /\ Q (.bl (!deq d e)) H
theorem op_eqD (hu:X.A.units + 64 < cLine):OpR X (compareOp .Eq) rEqD:=by
  intro pins s σ H x y v u Q I rx ry h
  obtain ⟨d,e,h1,h2,hd,k,q⟩:=h
  rcases k with ⟨ds,es,rfl,rfl⟩ | ⟨ds,es,rfl,rfl⟩
  . obtain ⟨p,vs,rfl,a,b⟩:=h1
    obtain ⟨p',ws,rfl,a',b'⟩:=h2
    cases rx
    cases ry
    obtain ⟨its,r,t⟩:=tup_at I a
    obtain ⟨its',r',t'⟩:=tup_at I a'
    have z:=SeqAt.RcAt.tuples (A:=X.A) (e:=nth ds es) t t' (by omega) (fun j g1 g2 => eqAt_L I ds es b b' r r' (in1_tup (by omega)) j (by simpa using g1) (by simpa using g2))
    have l1:its.length = ds.length:=by rw [b.length,r.length]
    have l2:its'.length = es.length:=by rw [b'.length,r'.length]
    rw [List.size_toArray,List.size_toArray,l1,l2,deqL_all] at z
    exact z _ _ _ _ ⟨.bl _,H,I,rfl,q⟩
  . obtain ⟨p,vs,rfl,a,b⟩:=h1
    obtain ⟨p',ws,rfl,a',b'⟩:=h2
    cases rx
    cases ry
    obtain ⟨its,r,t⟩:=lst_at I a
    obtain ⟨its',r',t'⟩:=lst_at I a'
    have l1:its.length = ds.length:=by rw [b.length,r.length]
    have l2:its'.length = es.length:=by rw [b'.length,r'.length]
    by_cases hl:ds.length = es.length
    . have z:=SeqAt.RcAt.lists (A:=X.A) (e:=nth ds es) t t' (by rw [List.size_toArray,List.size_toArray,l1,l2,hl]) (by omega) (fun j g1 g2 => eqAt_L I ds es b b' r r' (in1_lst (by omega)) j (by simpa using g1) (by simpa using g2))
      have e1:=deqL_all ds es
      rw [hl,Nat.min_self,beq_self_eq_true,Bool.and_true] at e1
      rw [List.size_toArray,l1,hl,e1] at z
      exact z _ _ _ _ ⟨.bl _,H,I,rfl,q⟩
    . have z:=SeqAt.RcAt.lists_lengths (A:=X.A) t t' (by rw [List.size_toArray,List.size_toArray,l1,l2]; simpa using hl) (by omega)
      have e1:=deqL_all ds es
      rw [show (ds.length == es.length) = false from by simpa using hl,Bool.and_false] at e1
      have e2:deq (.lst ds) (.lst es) = false:=by show deqL ds es = false; exact e1.symm
      rw [e2] at q
      exact z _ _ _ _ ⟨.bl _,H,I,rfl,q⟩
theorem op_neD (hu:X.A.units + 64 < cLine):OpR X (compareOp .NotEq) rNeD:=by
  intro pins s σ H x y v u Q I rx ry h
  obtain ⟨d,e,h1,h2,hd,k,q⟩:=h
  rcases k with ⟨ds,es,rfl,rfl⟩ | ⟨ds,es,rfl,rfl⟩
  . obtain ⟨p,vs,rfl,a,b⟩:=h1
    obtain ⟨p',ws,rfl,a',b'⟩:=h2
    cases rx
    cases ry
    obtain ⟨its,r,t⟩:=tup_at I a
    obtain ⟨its',r',t'⟩:=tup_at I a'
    have z:=SeqAt.RcNeAt.tuples (A:=X.A) (e:=nth ds es) t t' (by omega) (fun j g1 g2 => eqAt_L I ds es b b' r r' (in1_tup (by omega)) j (by simpa using g1) (by simpa using g2))
    have l1:its.length = ds.length:=by rw [b.length,r.length]
    have l2:its'.length = es.length:=by rw [b'.length,r'.length]
    rw [List.size_toArray,List.size_toArray,l1,l2,deqL_all] at z
    exact z _ _ _ _ ⟨.bl _,H,I,rfl,q⟩
  . obtain ⟨p,vs,rfl,a,b⟩:=h1
    obtain ⟨p',ws,rfl,a',b'⟩:=h2
    cases rx
    cases ry
    obtain ⟨its,r,t⟩:=lst_at I a
    obtain ⟨its',r',t'⟩:=lst_at I a'
    have l1:its.length = ds.length:=by rw [b.length,r.length]
    have l2:its'.length = es.length:=by rw [b'.length,r'.length]
    by_cases hl:ds.length = es.length
    . have z:=SeqAt.RcNeAt.lists (A:=X.A) (e:=nth ds es) t t' (by rw [List.size_toArray,List.size_toArray,l1,l2,hl]) (by omega) (fun j g1 g2 => eqAt_L I ds es b b' r r' (in1_lst (by omega)) j (by simpa using g1) (by simpa using g2))
      have e1:=deqL_all ds es
      rw [hl,Nat.min_self,beq_self_eq_true,Bool.and_true] at e1
      rw [List.size_toArray,l1,hl,e1] at z
      exact z _ _ _ _ ⟨.bl _,H,I,rfl,q⟩
    . have z:=SeqAt.RcNeAt.lists_lengths (A:=X.A) t t' (by rw [List.size_toArray,List.size_toArray,l1,l2]; simpa using hl) (by omega)
      have e1:=deqL_all ds es
      rw [show (ds.length == es.length) = false from by simpa using hl,Bool.and_false] at e1
      have e2:deq (.lst ds) (.lst es) = false:=by show deqL ds es = false; exact e1.symm
      rw [e2] at q
      exact z _ _ _ _ ⟨.bl _,H,I,rfl,q⟩
noncomputable def rEqA:R2:=fun x y H Q => rEq x y H Q ∨ rEqD x y H Q
noncomputable def rNeA:R2:=fun x y H Q => rNe x y H Q ∨ rNeD x y H Q
theorem op_eqA (hu:X.A.units + 64 < cLine):OpR X (compareOp .Eq) rEqA:=op_eq.or (op_eqD hu)
theorem op_neA (hu:X.A.units + 64 < cLine):OpR X (compareOp .NotEq) rNeA:=op_ne.or (op_neD hu)
end
section
variable {H:Hp} {Q:VK} {i j:Int} {b c:Bool} {x y:Str} {u v:V}
theorem e_int (k:Q (.bl (decide (i = j))) H):rEqA (.int i) (.int j) H Q:=.inl (r_eqI k)
theorem n_int (k:Q (.bl (!decide (i = j))) H):rNeA (.int i) (.int j) H Q:=.inl (r_neI k)
theorem e_bl (k:Q (.bl (b == c)) H):rEqA (.bl b) (.bl c) H Q:=.inl (r_eqB k)
theorem n_bl (k:Q (.bl (!(b == c))) H):rNeA (.bl b) (.bl c) H Q:=.inl (r_neB k)
theorem e_str (k:Q (.bl (x == y)) H):rEqA (.str x) (.str y) H Q:=.inl ⟨rfl,by rw [dec_str]; exact k⟩
theorem n_str (k:Q (.bl (!(x == y))) H):rNeA (.str x) (.str y) H Q:=.inl ⟨rfl,by rw [dec_str]; exact k⟩
theorem e_lst {ds es:List Dt} (h1:Den H (.lst ds) u) (h2:Den H (.lst es) v) (hd:depL ds <= 50) (k:Q (.bl (deqL ds es)) H):rEqA u v H Q :=
  .inr ⟨_,_,h1,h2,by simp [dep]; omega,.inr ⟨_,_,rfl,rfl⟩,k⟩
theorem n_lst {ds es:List Dt} (h1:Den H (.lst ds) u) (h2:Den H (.lst es) v) (hd:depL ds <= 50) (k:Q (.bl (!deqL ds es)) H):rNeA u v H Q :=
  .inr ⟨_,_,h1,h2,by simp [dep]; omega,.inr ⟨_,_,rfl,rfl⟩,k⟩
theorem den2 {p:Addr} {a b:Int} (h:H p = some (.tup [.int a,.int b])):Den H (.tup [.int a,.int b]) (.ref p):=⟨p,_,rfl,h,_,_,rfl,rfl,_,_,rfl,rfl,rfl⟩
end
end L2
namespace L2
open PySem PySem.Spec PyProof.Rows
section
variable {X:Cx} {K:PySem.W.Frag} {H H':Hp} {Q:VK} {i j:Int} {σ:St}
noncomputable def rAddS:R2:=fun x y H Q => ∃ i j,x = .str i /\ y = .str j /\ i.length + j.length <= sizeLine /\ Q (.str (i ++ j)) H
theorem op_addS:OpR X (binaryOp .Add) rAddS:=op_add_str
noncomputable def rAddA (K:PySem.W.Frag):R2:=fun x y H Q => rI0 (fun i j => .int (i + j)) x y H Q ∨ rCat x y H Q ∨ rCatT K x y H Q ∨ rAddS x y H Q
theorem op_addA:OpR X (binaryOp .Add) (rAddA X.K):=op_add.or (op_cat.or (op_catT.or op_addS))
theorem a_int (k:Q (.int (i + j)) H):rAddA K (.int i) (.int j) H Q:=.inl (r_I0 k)
theorem a_lst {p q:Addr} {xs ys:List V} (h1:H p = some (.lst xs)) (h2:H q = some (.lst ys)) (hl:xs.length + ys.length <= 1000) (k:∀ l,H l = none -> Q (.ref l) (upd H l (.lst (xs ++ ys)))):rAddA K (.ref p) (.ref q) H Q :=
  .inr (.inl ⟨p,q,xs,ys,rfl,rfl,h1,h2,le_line hl,k⟩)
theorem a_tup {p q:Addr} {xs ys:List V} (h1:H p = some (.tup xs)) (h2:H q = some (.tup ys)) (hl:xs.length + ys.length <= 1000) (hx:xs ≠ []) (hy:ys ≠ []) (k:∀ l,H l = none -> Q (.ref l) (upd H l (.tup (xs ++ ys)))):rAddA K (.ref p) (.ref q) H Q :=
  .inr (.inr (.inl ⟨p,q,xs,ys,rfl,rfl,SqT.of h1,SqT.of h2,hx,le_line hl,fun e => absurd e hy,fun _ => k⟩))
noncomputable def rListOf (K:PySem.W.Frag):List V -> Hp -> VK -> Prop:=fun xs H Q => ∃ p ys,xs = [.ref p] /\ (SqL K H p ys ∨ SqT K H p ys) /\ ∀ l,H l = none -> Q (.ref l) (upd H l (.lst ys))
theorem c_list:CallR X (.type "list") (rListOf X.K):=call_list_of
noncomputable def rSlA (K:PySem.W.Frag):V -> Option Int -> Option Int -> Hp -> VK -> Prop:=fun x lo hi H Q => rSlL K x lo hi H Q ∨ rSlT K x lo hi H Q
theorem sl_any:SlR X (rSlA X.K):=sl_list.or sl_tup
noncomputable def partK (R:Option Int -> Hp -> Prop):VK:=fun x H1 => ∃ i,x = .int i /\ R (some i) H1
theorem r_part {t:TE} {R:Option Int -> Hp -> Prop} (k:t σ H (partK R)):tPart t σ H R:=k
theorem r_partK {R:Option Int -> Hp -> Prop} (k:R (some i) H):partK R (.int i) H:=⟨i,rfl,k⟩
theorem r_nopart {R:Option Int -> Hp -> Prop} (k:R none H):tNoPart σ H R:=k
theorem r_sl {r:V -> Option Int -> Option Int -> Hp -> VK -> Prop} {te:TE} {tl th:TO} (k:te σ H fun x H1 => tl σ H1 fun l H2 => th σ H2 fun u H3 => r x l u H3 Q):tSl r te tl th σ H Q:=k
theorem s_lst {p:Addr} {xs:List V} {lo hi:Option Int} (h:H p = some (.lst xs)) (k:∀ l,H l = none -> Q (.ref l) (upd H l (.lst (cutV xs lo hi)))):rSlA K (.ref p) lo hi H Q:=.inl ⟨p,xs,rfl,SqL.of h,k⟩
theorem s_tup {p:Addr} {xs:List V} {lo hi:Option Int} (h:H p = some (.tup xs)) (hn:¬ (HT.sIx xs.length 0 lo = 0 /\ HT.sIx xs.length xs.length hi = xs.length)) (k:∀ l,H l = none -> Q (.ref l) (upd H l (.tup (cutV xs lo hi)))):rSlA K (.ref p) lo hi H Q :=
  .inr ⟨p,xs,rfl,SqT.of h,hn,k⟩
theorem upd_old {H:Hp} {q b:Addr} {o u:HO} (hq:H q = none) (h:H b = some u):upd H q o b = some u:=by rw [upd_ne (ne_of_none h hq)]; exact h
theorem pickV {xs:List V} {i:Int} (h0:0 <= i) (h1:i < xs.length):∃ z,z ∈ xs /\ atI xs i = some z:=by
  have hk:i.toNat < xs.length:=by omega
  have ek:i = ((i.toNat:Nat):Int):=by omega
  have q:atI xs ((i.toNat:Nat):Int) = some xs[i.toNat]:=atI_nat (List.getElem?_eq_getElem hk)
  rw [← ek] at q
  exact ⟨xs[i.toNat],List.getElem_mem hk,q⟩
theorem St3.nn {p q:Addr} {n:Int} (h:St3 H p n) (hq:H q = none):q ≠ p:=let ⟨_,_,_,h,_⟩:=h; (ne_of_none h hq).symm
noncomputable def isI:V -> Bool
  | .int _ => true
  | _ => false
theorem flat_ty {v:V} (h:flatV v = true):∃ t b c,TyOf K H v t /\ PySem.W.kitOne K t (.type "int") = some b /\ PySem.W.kitOne K t (.type "bool") = some c /\ (b && !c) = isI v:=by
  cases v with
  | non => exact ⟨_,_,_,.non,kit_NoneType_int,kit_NoneType_bool,rfl⟩
  | bl b => exact ⟨_,_,_,.bl b,kit_bool_int,kit_bool_bool,rfl⟩
  | int b => exact ⟨_,_,_,.int b,kit_int_int,kit_int_bool,rfl⟩
  | str b => exact ⟨_,_,_,.str b,kit_str_int,kit_str_bool,rfl⟩
  | _ => exact absurd (show false = true from h) Bool.false_ne_true
noncomputable def NT (K:PySem.W.Frag) (H:Hp) (x:V):Prop:=∃ t,TyOf K H x t /\ PySem.W.kitOne K t (.type "tuple") = some false
theorem NT.int (i:Int):NT K H (.int i):=⟨_,.int i,kit_int_tuple⟩
theorem NT.non:NT K H .non:=⟨_,.non,kit_NoneType_tuple⟩
theorem NT.str (x:Str):NT K H (.str x):=⟨_,.str x,kit_str_tuple⟩
theorem NT.bl (x:Bool):NT K H (.bl x):=⟨_,.bl x,kit_bool_tuple⟩
theorem NT.lst {p:Addr} {xs:List V} (h:H p = some (.lst xs)):NT K H (.ref p):=⟨_,.lst h,kit_list_tuple⟩
noncomputable def Frq (K:PySem.W.Frag) (H:Hp) (x:V) (r:Bool):Prop :=
  (NT K H x /\ r = false) ∨ (∃ p xs,x = .ref p /\ H p = some (.tup xs) /\ xs.length ≠ 2 /\ r = false) ∨
    ∃ p v w,x = .ref p /\ H p = some (.tup [v,w]) /\ flatV v = true /\ flatV w = true /\ (∀ a b,v = .int a -> w = .int b -> Sm 8000 a /\ Sm 8000 b) /\ r = frV v w
end
end L2
namespace L2
open PySem PySem.Spec PyProof.Rows
noncomputable def cxComp (X:Cx) (scope:Scope) (cl:List (Str×Addr)) (N:List Str) (C:Addr) (s0:Shared) (H0:Hp) (ex:List Addr):Cx :=
  { X with N:=N,s₀:=s0,H₀:=H0,env:=compEnvC scope cl C X.env,outer:=X.stack,stack:=X.stack,ex:=ex,fn:=fun _ => false,pn:=[],xe:=fun _ _ => False }
noncomputable def capsOf (env:Env) (names:List Str):List (Str×Addr):=names.filterMap fun n => (env.cells.lookup n).map fun c => (n,c)
theorem capsOf_sub {env:Env}:∀ {names:List Str} {x:Str} {c:Addr},(capsOf env names).lookup x = some c -> env.cells.lookup x = some c
  | [],x,c,h => by simp [capsOf] at h
  | n :: r,x,c,h => by
    unfold capsOf at h
    rw [List.filterMap_cons] at h
    cases e:env.cells.lookup n with
    | none =>
      rw [e] at h
      exact capsOf_sub (names:=r) h
    | some d =>
      rw [e] at h
      have h':List.lookup x ((n,d) :: capsOf env r) = some c:=h
      rw [List.lookup_cons] at h'
      by_cases hx:x = n
      . subst hx
        rw [beq_self_eq_true] at h'
        cases h'
        exact e
      . rw [beq_eq_false_iff_ne.mpr hx] at h'
        exact capsOf_sub (names:=r) h'
theorem capsOf_has {env:Env}:∀ {names:List Str} {x:Str} {c:Addr},x ∈ names -> env.cells.lookup x = some c -> (capsOf env names).lookup x = some c
  | [],x,c,h,_ => by cases h
  | n :: r,x,c,h,e => by
    unfold capsOf
    rw [List.filterMap_cons]
    by_cases hx:x = n
    . subst hx
      rw [e]
      show List.lookup x ((x,c) :: _) = some c
      rw [List.lookup_cons,beq_self_eq_true]
    . have hr:x ∈ r:=(List.mem_cons.mp h).resolve_left hx
      have ih:=capsOf_has (env:=env) hr e
      cases e2:env.cells.lookup n with
      | none => exact ih
      | some d =>
        show List.lookup x ((n,d) :: capsOf env r) = some c
        rw [List.lookup_cons,beq_eq_false_iff_ne.mpr hx]
        exact ih
noncomputable def capV (σ:St) (is:List Nat):St:=is.map fun i => (σ[i]?).join
noncomputable def compK (te:TE) (tc:Option TT) (g:TG) (ts:St) (caps:St) (Q:VK):It -> Hp -> Prop:=fun J H1 => ∀ acc,H1 acc = none ->
  ∃ W:Nat -> Nat -> List V -> Hp -> Prop,(∃ m,W 0 m [] (upd H1 acc (.lst []))) /\ ∀ i m ys H,W i m ys H ->
    H acc = some (.lst ys) /\ ((J.stop i H /\ Q (.ref acc) H) ∨ (ys.length < sizeLine /\ J.go i H /\ ∀ (us:St) x H',us.length = ts.length -> J.yld i H x H' -> g x (us ++ caps) H' fun σ2 H2 =>
      (∃ us2,us2.length = ts.length /\ σ2 = us2 ++ caps) /\
      let made:=te σ2
      let next:=fun y H3 => H3 acc = some (.lst ys) /\ ∃ m',m' < m /\ W (i + 1) m' (ys ++ [y]) (upd H3 acc (.lst (ys ++ [y])))
      match tc with
      | none => made H2 next
      | some c => c σ2 H2 fun b H3 => if b = true then made H3 next else ∃ m',m' < m /\ W (i + 1) m' ys H3))
noncomputable def tComp (wi:TI) (te:TE) (tc:Option TT) (g:TG) (k:Nat) (is:List Nat):TE:=fun σ H Q => wi σ H (compK te tc g (List.replicate k none) (capV σ is) Q)
section
variable {X:Cx} {scope:Scope} {N tn names:List Str} {is:List Nat} {elt iter tg:Expr} {ifs:List Expr} {pos:Pos} {wi:TI} {te:TE} {tc:Option TT} {g:TG}
structure CompOk (X:Cx) (scope:Scope) (tn names:List Str) (is:List Nat):Prop where
  cls:(∀ x ∈ names,∃ c,X.env.cells.lookup x = some c) -> closureFor scope X.env = pure (capsOf X.env names)
  nocell:∀ y ∈ scope.names,y.2 ≠ .cell
  kind:scope.kind = .function
  nms:∀ y ∈ scope.names,y.2 = .local -> scope.names.lookup y.1 = some .local
  slots:∀ (j i:Nat) (x:Str),is[j]? = some i -> names[j]? = some x -> X.N[i]? = some x
  len:is.length = names.length
  outk:∀ x ∈ names,X.env.kindOf x = some .cell ∨ X.env.kindOf x = some .free
  ink:∀ x ∈ names,(relabel scope X.env).names.lookup x = some .cell ∨ (relabel scope X.env).names.lookup x = some .free
  free:∀ x,((relabel scope X.env).names.lookup x = some .cell ∨ (relabel scope X.env).names.lookup x = some .free) -> x ∈ names
theorem closure_go {env:Env}:∀ (l:List (Str×NameKind)) (acc:List (Str×Addr)),(∀ x ∈ (l.filter fun y => y.2 == .free).map (·.1),∃ c,env.cells.lookup x = some c) ->
    (forIn l acc fun (x:Str×NameKind) (cs:List (Str×Addr)) => (if (x.2 == .free) = true then (do let a ← cellOf env x.1; pure (ForInStep.yield ((x.1,a) :: cs))) else pure (ForInStep.yield cs)):Sem (List (Str×Addr)))
      = pure ((((l.filter fun y => y.2 == .free).map (·.1)).reverse.filterMap fun n => (env.cells.lookup n).map fun c => (n,c)) ++ acc)
  | [],acc,_ => rfl
  | (n,k) :: r,acc,h => by
    rw [List.forIn_cons]
    by_cases hk:(k == NameKind.free) = true
    . have hf:((n,k) :: r).filter (fun y => y.2 == .free) = (n,k) :: r.filter fun y => y.2 == .free:=by rw [List.filter_cons]; exact if_pos hk
      rw [hf] at h ⊢
      obtain ⟨c,e⟩:=h n (by simp)
      have e1:cellOf env n = pure c:=by unfold cellOf; rw [e]
      show (((if (k == NameKind.free) = true then (do let a ← cellOf env n; pure (ForInStep.yield ((n,a) :: acc))) else pure (ForInStep.yield acc)):Sem _) >>= _) = _
      rw [if_pos hk,e1]
      have ih:=closure_go r ((n,c) :: acc) fun x hx => h x (by simp at hx ⊢; exact .inr hx)
      have e2:(((n,k) :: r.filter fun y => y.2 == .free).map (·.1)).reverse.filterMap (fun n => (env.cells.lookup n).map fun c => (n,c)) = ((r.filter fun y => y.2 == .free).map (·.1)).reverse.filterMap (fun n => (env.cells.lookup n).map fun c => (n,c)) ++ [(n,c)]:=by
        rw [List.map_cons,List.reverse_cons,List.filterMap_append,List.filterMap_cons,e]
        rfl
      rw [e2,List.append_assoc]
      exact ih
    . have hf:((n,k) :: r).filter (fun y => y.2 == .free) = r.filter fun y => y.2 == .free:=by rw [List.filter_cons]; exact if_neg hk
      rw [hf] at h ⊢
      show (((if (k == NameKind.free) = true then (do let a ← cellOf env n; pure (ForInStep.yield ((n,a) :: acc))) else pure (ForInStep.yield acc)):Sem _) >>= _) = _
      rw [if_neg hk]
      exact closure_go r acc h
theorem closureFor_caps {scope:Scope} {env:Env} {names:List Str} (hn:((scope.names.filter fun y => y.2 == .free).map (·.1)).reverse = names) (h:∀ x ∈ names,∃ c,env.cells.lookup x = some c) :
    closureFor scope env = pure (capsOf env names):=by
  unfold closureFor capsOf
  have q:=closure_go (env:=env) scope.names [] fun x hx => h x (by rw [← hn]; exact List.mem_reverse.mpr hx)
  rw [hn,List.append_nil] at q
  show (_ >>= fun r => pure r) = _
  have q2:(forIn scope.names ([]:List (Str×Addr)) fun (x:Str×NameKind) (cs:List (Str×Addr)) => match x with
      | (name,kind) => (if (kind == .free) = true then (do let a ← cellOf env name; pure (ForInStep.yield ((name,a) :: cs))) else pure (ForInStep.yield cs)):Sem (List (Str×Addr))) = pure (names.filterMap fun n => (env.cells.lookup n).map fun c => (n,c)):=q
  first
    | exact (congrArg (fun z => z >>= fun r => pure r) q2)
    | simpa using q2
noncomputable def relab (scope sc:Scope):Scope:={ scope with names:=scope.names.map fun (n,k) => if (k == .free && sc.kind == .function && sc.names.lookup n == some .cell) then (n,.cell) else (n,k) }
theorem comp_ck {X:Cx} {scope sc:Scope} {N tn names:List Str} {is:List Nat} (hsc:X.env.scope = sc) (hN:X.N = N) (h1:((scope.names.filter fun y => y.2 == .free).map (·.1)).reverse = names) (h2:∀ y ∈ scope.names,y.2 ≠ .cell) (h3:scope.kind = .function)
    (h4:∀ y ∈ scope.names,y.2 = .local -> scope.names.lookup y.1 = some .local) (h5:(is.map fun i => N[i]?) = names.map some) (h6:∀ x ∈ names,sc.names.lookup x = some .cell ∨ sc.names.lookup x = some .free)
    (h7:∀ x ∈ names,(relab scope sc).names.lookup x = some .cell ∨ (relab scope sc).names.lookup x = some .free) (h8:∀ y ∈ (relab scope sc).names,(y.2 = .cell ∨ y.2 = .free) -> y.1 ∈ names):CompOk X scope tn names is:=by
  subst hsc hN
  have hr:relabel scope X.env = relab scope X.env.scope:=rfl
  refine ⟨closureFor_caps h1,h2,h3,h4,fun j i x e1 e2 => ?_,?_,h6,?_,fun x hx => ?_⟩
  . have q:=congrArg (fun l => l[j]?) h5
    simp only [List.getElem?_map,e1,e2,Option.map_some] at q
    exact Option.some.inj q
  . have q:=congrArg List.length h5
    simpa using q
  . rw [hr]; exact h7
  . rw [hr] at hx
    have mem:∀ {l:List (Str×NameKind)} {k:NameKind},l.lookup x = some k -> (x,k) ∈ l:=fun {l} {k} => by
      induction l with
      | nil => intro e; cases e
      | cons y r ih =>
        intro e
        obtain ⟨n,k'⟩:=y
        rw [List.lookup_cons] at e
        by_cases hx:x = n
        . subst hx
          rw [beq_self_eq_true] at e
          cases e
          exact List.mem_cons_self
        . rw [beq_eq_false_iff_ne.mpr hx] at e
          exact List.mem_cons_of_mem _ (ih e)
    rcases hx with hx | hx
    . exact h8 _ (mem hx) (.inl rfl)
    . exact h8 _ (mem hx) (.inr rfl)
theorem comp_ok {X:Cx} {scope:Scope} {tn names:List Str} {is:List Nat} (C:CompOk X scope tn names is) {pins:List (Addr×Obj)} {σ:St} {H:Hp} {s:Shared} (I:Inv X pins σ H s) {acc:Addr} {fp:List Addr}
    {s3:Shared} {h1:Heap} {t4:Nat} (I3:Inv X pins σ (upd H acc (.lst [])) s3) (hf:∀ b ∈ fp,FpOk X pins H b) (hfl:∀ b ∈ fp,b < s3.heap.objs.size) (hacc:∀ b ∈ fp,b ≠ acc)
    (ns:h1.Ns s3.heap.objs.size fun _ => none) (kp:∀ b o,s3.heap.get? b = some o -> h1.get? b = some o) :
    Inv (cxComp X scope (capsOf X.env names) (tn ++ names) s3.heap.objs.size s3 (upd H acc (.lst [])) fp) [] (List.replicate tn.length none ++ capV σ is) (upd H acc (.lst [])) { s3 with heap:=h1,toks:=t4 }:=by
  have ok:=I3.ok
  have hC:∀ x c,(capsOf X.env names).lookup x = some c -> X.env.cells.lookup x = some c:=fun x c h => capsOf_sub h
  have cellLt:∀ x c,X.env.cells.lookup x = some c -> c < s3.heap.objs.size:=fun x c e => let ⟨v,z⟩:=I3.cell x c e; z.lt
  refine ⟨⟨ok.mod,?_,ok.glob,ok.blt,Nat.le_refl _,fun x y c a b => ok.inj x y c (hC _ _ a) (hC _ _ b),fun x hx => ?_,fun _ _ z => absurd z (by simp [cxComp]),ok.hd,ok.frames,.inl rfl,fun b hb => ?_,fun b o e => I3.bs b o e,Nat.le_trans ok.bsz I3.sz,fun b o e hb => ?_,fun b hb z => ?_,I3.stack,fun b hb => I3.stkFree b hb⟩,
    rfl,I3.bare,Un.kept kp,⟨_,ns,fun i x v e1 e2 e3 => ?_⟩,fun x c e => ?_,?_,fun x c e => I3.freeC x c (hC _ _ e),fun p hp => absurd hp (by simp [cxComp]),I3.hok.kept kp,?_⟩
  . show (relabel scope X.env).kind = .function
    exact C.kind
  . have hm:=C.free x hx
    obtain ⟨c,e⟩:=ok.has x (C.outk x hm)
    exact ⟨c,capsOf_has hm e⟩
  . refine ⟨Nat.ne_of_lt (hfl b hb),fun x c e => (hf b hb).2.2.2.2.1 x c (hC _ _ e)⟩
  . rcases (hf b hb).2.2.2.1 with z | z
    . exact ok.noex b o e z
    . have:=Nat.lt_of_lt_of_le (Heap.lt_size e) ok.bsz
      omega
  . have:=I3.stkSub b z
    rcases List.mem_cons.mp this with q | q
    . exact (hf b hb).2.1 q
    . exact (hf b hb).2.2.1 q
  . by_cases hi:i < tn.length
    . rw [List.getElem?_append_left (by rw [List.length_replicate]; exact hi),List.getElem?_replicate] at e2
      rw [if_pos hi] at e2
      cases e2
    . have e1:(tn ++ names)[i]? = some x:=e1
      rw [List.getElem?_append_right (by omega)] at e1
      rw [List.getElem?_append_right (by rw [List.length_replicate]; omega),List.length_replicate] at e2
      generalize hj:i - tn.length = j at e1 e2
      unfold capV at e2
      rw [List.getElem?_map] at e2
      cases e4:is[j]? with
      | none => rw [e4] at e2; cases e2
      | some i0 =>
        rw [e4] at e2
        have e5:(σ[i0]?).join = some v:=Option.some.inj e2
        have e6:σ[i0]? = some (some v):=by
          cases q:σ[i0]? with
          | none => rw [q] at e5; cases e5
          | some o => rw [q] at e5; exact congrArg some e5
        have hx:x ∈ names:=List.mem_of_getElem? e1
        obtain ⟨m,hm,look⟩:=I3.loc
        have hv:Vis X.env.scope x:=by
          rcases C.outk x hx with q | q
          . exact .inr (.inl q)
          . exact .inr (.inr q)
        obtain ⟨u,ru,lk⟩:=look i0 x v (C.slots j i0 x e4 e1) e6 hv
        refine ⟨u,ru,.inr ⟨C.ink x hx,?_⟩⟩
        rcases lk with ⟨q,_⟩ | ⟨_,c,ec,z⟩
        . rcases C.outk x hx with q' | q' <;> (rw [q] at q'; cases q')
        . exact ⟨c,capsOf_has hx ec,let ⟨o,a,b⟩:=z; ⟨o,kp _ _ a,b⟩⟩
  . obtain ⟨v,o,a,b⟩:=I3.cell x c (hC _ _ e)
    exact ⟨v,o,kp _ _ a,b⟩
  . exact I3.hok.fresh (Nat.le_refl _)
  . show (List.replicate tn.length none ++ capV σ is).length = (tn ++ names).length
    rw [List.length_append,List.length_append,List.length_replicate]
    unfold capV
    rw [List.length_map,C.len]
theorem compLoop_any {prog:Program} {w:World} {A:Around} {R:Result -> Shared -> Prop} {s:Shared} {elt target iter:Expr} {ifs:List Expr} {scope:Scope} {pos:Pos} {it acc:Value} {env:Env} (I:Nat -> Shared -> Prop)
    (turn:∀ n s,I n s -> wpAny (model prog w) A (pyNext it) (fun r s₁ => match r with
      | none => R (.ok .next) s₁
      | some v => wpAny (model prog w) A (letOwnedTupleGo target it v) (fun _ s₁' => wpAny (model prog w) A (assign target env v) (fun _ s₂ =>
          wpAny (model prog w) A (forIn ifs true fun c r => if r = true then do let ok ← isTrue c env (eval c env); pure (ForInStep.yield ok) else pure (ForInStep.yield r)) (fun ok s₃ =>
            if ok = true then wpAny (model prog w) A (eval elt env) (fun x s₄ =>
              wpAny (model prog w) A (call (.builtin "list.append") [acc,x]) (fun _ s₅ => ∃ m,m < n /\ I m s₅) (fun _ _ => False) s₄) (fun _ _ => False) s₃
            else ∃ m,m < n /\ I m s₃) (fun _ _ => False) s₂) (fun _ _ => False) s₁') (fun _ _ => False) s₁) (fun _ _ => False) s)
    (n:Nat) (h:I n s) :
    codeAny (model prog w) A (.compLoop (.ListComp elt [⟨target,iter,ifs,0⟩] scope pos) 0 it acc env) R s:=by
  refine codeAny_loop rfl I (fun n s hI => ?_) n h
  show wpAny _ A ((compTurn (.ListComp elt [⟨target,iter,ifs,0⟩] scope pos) 0 it acc env).onRaise (fun x => do noteFrame x env; theTreesLotGoes x)) _ _ s
  refine wpAny_noted ?_
  rw [compTurn_list]
  refine wpAny_bind (wpAny_standAt (wpAny_bind (wpAny_mono (turn n s hI) (fun r s₁ h₁ => ?_) fun _ _ h' => h'.elim)))
  cases r with
  | none => exact wpAny_pure h₁
  | some v =>
    refine wpAny_bind (wpAny_mono h₁ (fun _ s₁' h₁' => ?_) fun _ _ h' => h'.elim)
    refine wpAny_bind (wpAny_mono h₁' (fun _ s₂ h₂ => wpAny_bind (wpAny_mono h₂ (fun ok s₃ h₃ => ?_) fun _ _ h' => h'.elim)) fun _ _ h' => h'.elim)
    cases ok with
    | false => exact wpAny_pure ⟨rfl,h₃⟩
    | true =>
      exact wpAny_bind (wpAny_bind (wpAny_mono h₃ (fun x s₄ h₄ => wpAny_bind (wpAny_mono h₄ (fun _ s₅ h₅ => wpAny_pure (wpAny_pure ⟨rfl,h₅⟩)) fun _ _ h' => h'.elim)) fun _ _ h' => h'.elim))
noncomputable def PTs (X':Cx) (ifs:List Expr) (tc:Option TT):Prop:=match ifs,tc with
  | [],none => True
  | [c],some t => PT X' c t
  | _,_ => False
theorem pts_none {X':Cx}:PTs X' [] none:=trivial
structure TurnG (ok:Cx -> Prop) (P:Program) (w:World) (K:PySem.W.Frag) (tg:Expr) (J:It) (fp:List Addr) (it:Addr) (tn:Nat -> Heap -> Prop):Prop where
  mem:it ∈ fp
  obj:∀ i h,tn i h -> ∀ b ∈ fp,∃ o,h.get? b = some o /\ ∀ v,o.data ≠ .cell v
  keep:∀ i h h',tn i h -> (∀ b ∈ fp,∀ o,h.get? b = some o -> h'.get? b = some o) -> tn i h'
  item:∀ (X:Cx),X.prog = P -> X.w = w -> X.K = K -> ok X -> ∀ (i:Nat) (pins:List (Addr×Obj)) (s:Shared) (σ:St) (H:Hp) (E:Value -> Shared -> Prop),Inv X pins σ H s -> (∀ b ∈ fp,FpOk X pins H b) -> tn i s.heap -> J.go i H ->
    wpAny (model P w) X.A (pyNext (.ref it)) (fun r s1 => ∃ u,r = some u /\ wpAny (model P w) X.A (letOwnedTupleGo tg (.ref it) u) (fun _ s2 => ∃ x H',Inv X pins σ H' s2 /\ RelV x u /\ J.yld i H x H' /\ tn (i + 1) s2.heap /\ ∀ b ∈ fp,H' b = none) E s1) E s
  done:∀ (X:Cx),X.prog = P -> X.w = w -> X.K = K -> ok X -> ∀ (i:Nat) (pins:List (Addr×Obj)) (s:Shared) (σ:St) (H:Hp) (E:Value -> Shared -> Prop),Inv X pins σ H s -> (∀ b ∈ fp,FpOk X pins H b) -> tn i s.heap -> J.stop i H ->
    wpAny (model P w) X.A (pyNext (.ref it)) (fun r s1 => r = none /\ Inv X pins σ H s1) E s
  self:∀ (A:Around) (i:Nat) (s:Shared) (Q:Value -> Shared -> Prop) (E:Value -> Shared -> Prop),tn i s.heap -> Q (.ref it) s -> wpAny (model P w) A (pyIter (.ref it)) Q E s
noncomputable def PIEG (ok:Cx -> Prop) (X:Cx) (pins:List (Addr×Obj)) (σ:St) (tg:Expr) (R:It -> Hp -> Prop) (itv:Value) (s2:Shared):Prop :=
  ∃ (it:Addr) (fp:List Addr) (tn:Nat -> Heap -> Prop) (J:It) (H':Hp),itv = .ref it /\ Inv X pins σ H' s2 /\ TurnG ok X.prog X.w X.K tg J fp it tn /\ tn 0 s2.heap /\ (∀ b ∈ fp,FpOk X pins H' b) /\ R J H'
theorem pie_g {X:Cx} {pins:List (Addr×Obj)} {σ:St} {tg:Expr} {R:It -> Hp -> Prop} {itv:Value} {s2:Shared} (h:PIE X pins σ tg R itv s2):PIEG (fun X => X.calm = true) X pins σ tg R itv s2 :=
  let ⟨it,fp,tn,J,H',a,b,T,c,d,e⟩:=h; ⟨it,fp,tn,J,H',a,b,⟨T.mem,T.obj,T.keep,T.item,T.done,T.self⟩,c,d,e⟩
theorem comp_run {X:Cx} {ok:Cx -> Prop} {scope:Scope} {tn names:List Str} {is:List Nat} (ck:CompOk X scope tn names is) (hc:∀ C s0 H0 ex,ok (cxComp X scope (capsOf X.env names) (tn ++ names) C s0 H0 ex)) {elt tg iter:Expr} {ifs:List Expr} {pos:Pos} {te:TE} {tc:Option TT} {g:TG}
    (hg:∀ C s0 H0 ex,PG (cxComp X scope (capsOf X.env names) (tn ++ names) C s0 H0 ex) tg g) (he:∀ C s0 H0 ex,PE (cxComp X scope (capsOf X.env names) (tn ++ names) C s0 H0 ex) elt te)
    (ht:∀ C s0 H0 ex,PTs (cxComp X scope (capsOf X.env names) (tn ++ names) C s0 H0 ex) ifs tc)
    {pins:List (Addr×Obj)} {σ:St} {Q:VK} {s2:Shared} {itv:Value} {E:Value -> Shared -> Prop} (h2:PIEG ok X pins σ tg (compK te tc g (List.replicate tn.length none) (capV σ is) Q) itv s2) {RR:Value -> Addr -> Result -> Shared -> Prop}
    (fin:∀ (acc C:Addr) (H':Hp) (s':Shared) (m:Str -> Option Value),Inv X pins σ H' s' -> s'.heap.Ns C m -> H' C = none -> C ≠ X.env.locals -> (∀ x c,X.env.cells.lookup x = some c -> c ≠ C) -> (∀ p ∈ X.pn ++ pins,p.1 ≠ C) -> X.s₀.heap.objs.size <= C -> Q (.ref acc) H' ->
      RR (.ref acc) C (.ok .next) s') :
    wpAny (model X.prog X.w) X.A (newList []) (fun acc s₃ => wpAny (model X.prog X.w) X.A (newFunctionEnv scope X.env.globals (capsOf X.env names) [] X.env.qual none .none (some X.env)) (fun cenv s₄ =>
      codeAny (model X.prog X.w) X.A (.compStart (.ListComp elt [⟨tg,iter,ifs,0⟩] scope pos) 0 itv acc { cenv with scope:=relabel scope X.env }) (RR acc cenv.locals) s₄) E s₃) E s2:=by
  obtain ⟨it,fp,tnx,J,H2,rfl,I2,T,st2,f2,hK⟩:=h2
  have facc:H2 s2.heap.objs.size = none:=I2.hok.fresh (Nat.le_refl _)
  refine wpAny_newObj_type ?_ (by show 0 <= sizeLine; decide)
  have fpl:∀ b ∈ fp,b < s2.heap.objs.size:=fun b hb => let ⟨o,e,_⟩:=T.obj 0 _ st2 b hb; Heap.lt_size e
  generalize hs3:({ s2 with heap:=s2.heap.push { cls:=.type "list",data:=.seq ([]:List Value).toArray } }:Shared) = s3
  have hsz3:s3.heap.objs.size = s2.heap.objs.size + 1:=by rw [← hs3]; exact Heap.size_push ..
  have keep23:∀ b o,s2.heap.get? b = some o -> s3.heap.get? b = some o:=fun b o e => by rw [← hs3]; exact Heap.get?_push_of_some _ e
  have I3:Inv X pins σ (upd H2 s2.heap.objs.size (.lst [])) s3:=by
    rw [← hs3]
    exact I2.laid (t':=s2.toks) (fun b u e => Heap.get?_push_of_some _ e) (Nat.le_refl _) ⟨Nat.zero_le _,[],0,.nil,Heap.get?_push_size _ rfl⟩
  refine wpAny_newFunctionEnv ck.nocell (by intro y hy; simp at hy) (fun h1 ns sb => ?_) ck.kind
  have kp:∀ b o,s3.heap.get? b = some o -> h1.get? b = some o:=fun b o e => sb.extBut b o (Nat.ne_of_lt (Heap.lt_size e)) (Heap.get?_push_of_some _ e)
  have lt3:∀ b:Addr,b < s2.heap.objs.size -> b < s3.heap.objs.size:=fun b hb => Nat.lt_of_lt_of_le hb (by rw [hsz3]; exact Nat.le_succ _)
  have ns':h1.Ns s3.heap.objs.size fun _ => none:=ns
  have I4:=comp_ok (t4:=s3.toks + ([]:List (Str×Value)).length) ck I2 I3 f2 (fun b hb => lt3 b (fpl b hb)) (fun b hb => Nat.ne_of_lt (fpl b hb)) ns' kp
  generalize hX':cxComp X scope (capsOf X.env names) (tn ++ names) s3.heap.objs.size s3 (upd H2 s2.heap.objs.size (.lst [])) fp = X' at I4
  have hA:X'.A = X.A:=by rw [← hX']; rfl
  have hP:X'.prog = X.prog:=by rw [← hX']; rfl
  have hW:X'.w = X.w:=by rw [← hX']; rfl
  have hKK:X'.K = X.K:=by rw [← hX']; rfl
  have hcm:ok X':=by rw [← hX']; exact hc _ _ _ _
  have hfs:X'.fs = frs X.stack:=by rw [← hX']; rfl
  have hex:X'.ex = fp:=by rw [← hX']; rfl
  have hloc:X'.env.locals = s3.heap.objs.size:=by rw [← hX']; rfl
  have hs0:X'.s₀ = s3:=by rw [← hX']; rfl
  have hH0:X'.H₀ = upd H2 s2.heap.objs.size (.lst []):=by rw [← hX']; rfl
  have hxe:X'.xe = fun _ _ => False:=by rw [← hX']; rfl
  have henv:X'.env = compEnvC scope (capsOf X.env names) s3.heap.objs.size X.env:=by rw [← hX']; rfl
  have hg':PG X' tg g:=by rw [← hX']; exact hg _ _ _ _
  have he':PE X' elt te:=by rw [← hX']; exact he _ _ _ _
  have ht':PTs X' ifs tc:=by rw [← hX']; exact ht _ _ _ _
  have cells':∀ x c,X'.env.cells.lookup x = some c -> X.env.cells.lookup x = some c:=fun x c e => by rw [henv] at e; exact capsOf_sub e
  obtain ⟨W,⟨m0,w0⟩,turn⟩:=hK _ facc
  have stat:∀ {H':Hp},(∀ b ∈ fp,H' b = none) -> ∀ b ∈ fp,FpOk X' [] H' b:=fun {H'} hn b hb => by
    refine ⟨hn b hb,?_,?_,.inl (by rw [hex]; exact hb),fun x c e => (f2 b hb).2.2.2.2.1 x c (cells' x c e),fun p hp => ?_⟩
    . rw [hloc]; exact Nat.ne_of_lt (lt3 b (fpl b hb))
    . rw [hfs]
      intro z
      rcases List.mem_cons.mp (I2.stkSub b z) with q | q
      . exact (f2 b hb).2.1 q
      . exact (f2 b hb).2.2.1 q
    . rw [← hX'] at hp
      exact absurd hp (by simp [cxComp])
  have loop:∀ s4:Shared,Inv X' [] (List.replicate tn.length none ++ capV σ is) (upd H2 s2.heap.objs.size (.lst [])) s4 -> tnx 0 s4.heap ->
      codeAny (model X.prog X.w) X.A (.compLoop (.ListComp elt [⟨tg,iter,ifs,0⟩] scope pos) 0 (.ref it) (.ref s2.heap.objs.size) X'.env) (RR (.ref s2.heap.objs.size) s3.heap.objs.size) s4:=by
    intro s4 J4 st4
    refine compLoop_any (fun n s' => ∃ i ys ts H',Inv X' [] (ts ++ capV σ is) H' s' /\ ts.length = tn.length /\ tnx i s'.heap /\ (∀ b ∈ fp,H' b = none) /\ W i n ys H') ?_ m0
      ⟨0,[],_,_,J4,List.length_replicate ..,st4,fun b hb => by rw [upd_ne (Nat.ne_of_lt (fpl b hb))]; exact (f2 b hb).1,w0⟩
    rintro n s5 ⟨i,ys,ts,H5,I5,hts,st5,fr5,w5⟩
    obtain ⟨hacc5,hcase⟩:=turn i n ys H5 w5
    have hrun:∀ {α:Type} {m:Sem α} {Q':α -> Shared -> Prop} {s':Shared},wpAny (model X'.prog X'.w) X'.A m Q' (fun _ _ => False) s' -> wpAny (model X.prog X.w) X.A m Q' (fun _ _ => False) s':=fun {α m Q' s'} z => by
      rw [hP,hW,hA] at z; exact z
    rcases hcase with ⟨stop,qn⟩ | ⟨hlen,go,step⟩
    . have z:=T.done X' hP hW hKK hcm i [] s5 _ H5 (fun _ _ => False) I5 (stat fr5) st5 stop
      rw [hA] at z
      refine thn z fun r s6 ⟨hr,I6⟩ => ?_
      subst hr
      -- the frame around,behind the block
      have u23:Un (frs X.stack) fp H2 (upd H2 s2.heap.objs.size (.lst [])) s2.heap s3.heap:=Un.laid keep23 (Nat.le_refl _) facc
      have u36:Un (frs X.stack) fp (upd H2 s2.heap.objs.size (.lst [])) H5 s3.heap s6.heap:=by
        have b:=I6.base
        rw [hfs,hex,hs0,hH0] at b
        exact b
      have hos:s6.os = s2.os:=by
        have b:=I6.os
        rw [hs0,← hs3] at b
        exact b
      have IO:Inv X pins σ H5 s6:=I2.call' hos (u23.trans u36) (by have b:=I6.hok; rw [hP,hW] at b; exact b) I6.bare fun b hb => by
        obtain ⟨_,f1,f2',f3,f4,f5⟩:=f2 b hb
        exact ⟨f3,f1,fun x c e => f4 x c e,fun p hp => f5 p hp⟩
      obtain ⟨m,hm,_⟩:=I6.loc
      rw [hloc] at hm
      have fC:H5 s3.heap.objs.size = none:=by have b:=I6.free; rw [hloc] at b; exact b
      refine fin _ _ H5 s6 m IO hm fC ?_ (fun x c e => ?_) (fun p hp => ?_) ?_ qn
      . exact Nat.ne_of_gt (Nat.lt_of_lt_of_le I2.lt (by omega))
      . obtain ⟨v,z⟩:=I2.cell x c e
        exact Nat.ne_of_lt (lt3 c z.lt)
      . exact Nat.ne_of_lt (lt3 p.1 (Heap.lt_size (I2.pin p hp).1))
      . exact Nat.le_trans I2.sz (by omega)
    . have z:=T.item X' hP hW hKK hcm i [] s5 _ H5 (fun _ _ => False) I5 (stat fr5) st5 go
      rw [hA] at z
      refine thn z fun r s6 ⟨u,hr,h6⟩ => ?_
      subst hr
      refine thn h6 fun _ s7 ⟨x,H7,I7,r7,y7,st7,fr7⟩ => ?_
      have I7':=I7.pinned (stat fr7) (T.obj _ _ st7)
      have zg:=hg' _ s7 _ H7 x u _ I7' r7 (step ts x H7 (by rw [hts,List.length_replicate]) y7)
      rw [hxe] at zg
      refine thn (hrun zg) fun _ s8 ⟨σ8,H8,I8,⟨us2,hus,e8⟩,q8⟩ => ?_
      subst e8
      rw [List.length_replicate] at hus
      have back:∀ {s9:Shared} {H9:Hp},Inv X' ([] ++ pinsAt fp s7.heap) (us2 ++ capV σ is) H9 s9 -> tnx (i + 1) s9.heap /\ ∀ b ∈ fp,H9 b = none:=fun {s9 H9} I9 => by
        refine ⟨T.keep _ _ _ st7 fun b hb o e => (I9.pin (b,o) (List.mem_append_right _ (List.mem_append_right _ (mem_pinsAt hb e)))).1,fun b hb => ?_⟩
        obtain ⟨o,e,d⟩:=T.obj _ _ st7 b hb
        exact (I9.pin (b,o) (List.mem_append_right _ (List.mem_append_right _ (mem_pinsAt hb e)))).2.1
      have made:∀ {s9:Shared} {H9:Hp},Inv X' ([] ++ pinsAt fp s7.heap) (us2 ++ capV σ is) H9 s9 -> te (us2 ++ capV σ is) H9 (fun y H3 => H3 s2.heap.objs.size = some (.lst ys) /\ ∃ m',m' < n /\ W (i + 1) m' (ys ++ [y]) (upd H3 s2.heap.objs.size (.lst (ys ++ [y])))) ->
          wpAny (model X.prog X.w) X.A (eval elt X'.env) (fun x s₄ => wpAny (model X.prog X.w) X.A (call (.builtin "list.append") [.ref s2.heap.objs.size,x]) (fun _ s₅ => ∃ m,m < n /\ ∃ i ys ts H',Inv X' [] (ts ++ capV σ is) H' s₅ /\ ts.length = tn.length /\ tnx i s₅.heap /\ (∀ b ∈ fp,H' b = none) /\ W i m ys H') (fun _ _ => False) s₄) (fun _ _ => False) s9:=fun {s9 H9} I9 q9 => by
        have ze:=he' _ s9 _ H9 _ I9 q9
        rw [hxe] at ze
        refine thn (hrun ze) fun y s10 ⟨yv,H10,I10,ry,ha10,m',hm',w10⟩ => ?_
        have za:=(mt_append (X:=X')) ([] ++ pinsAt fp s7.heap) s10 (us2 ++ capV σ is) H10 (.ref s2.heap.objs.size) [yv] (.ref s2.heap.objs.size) [y] (fun v H' => v = .non /\ H' = upd H10 s2.heap.objs.size (.lst (ys ++ [yv]))) I10 rfl (.cons ry .nil)
          ⟨_,ys,yv,rfl,rfl,ha10,hlen,rfl,rfl⟩
        rw [hxe] at za
        refine thn (hrun za) fun _ s11 ⟨_,H11,I11,_,_,e11⟩ => ?_
        subst e11
        obtain ⟨b1,b2⟩:=back I11
        exact ⟨m',hm',i + 1,_,us2,_,I11.unpinned,hus,b1,b2,w10⟩
      cases ifs with
      | nil =>
        cases tc with
        | some t => exact ht'.elim
        | none => exact wpAny_tests_nil (by rw [if_pos rfl]; exact made I8 q8)
      | cons c0 rest =>
        cases rest with
        | cons _ _ => cases tc <;> exact ht'.elim
        | nil =>
          cases tc with
          | none => exact ht'.elim
          | some t =>
            have zt:=(show PT X' c0 t from ht') _ s8 _ H8 _ I8 q8
            rw [hxe] at zt
            refine wpAny_tests_one (thn (hrun zt) fun ok s9 ⟨H9,I9,q9⟩ => ?_)
            cases ok with
            | true => rw [if_pos rfl]; rw [if_pos rfl] at q9; exact made I9 q9
            | false =>
              rw [if_neg Bool.false_ne_true]
              rw [if_neg Bool.false_ne_true] at q9
              obtain ⟨m',hm',w9⟩:=q9
              obtain ⟨b1,b2⟩:=back I9
              exact ⟨m',hm',i + 1,_,us2,_,I9.unpinned,hus,b1,b2,w9⟩
  have st4:tnx 0 h1:=T.keep _ _ _ st2 fun b hb o e => kp b o (keep23 b o e)
  have goal0:=loop _ I4 st4
  rw [henv] at goal0
  refine codeAny_compStart_list goal0 (T.self X.A 0 _ _ _ st4 goal0)
theorem pe_comp (ck:CompOk X scope tn names is) (hc:X.calm = true) (hi:PI X tg iter wi)
    (hg:∀ C s0 H0 ex,PG (cxComp X scope (capsOf X.env names) (tn ++ names) C s0 H0 ex) tg g) (he:∀ C s0 H0 ex,PE (cxComp X scope (capsOf X.env names) (tn ++ names) C s0 H0 ex) elt te)
    (ht:∀ C s0 H0 ex,PTs (cxComp X scope (capsOf X.env names) (tn ++ names) C s0 H0 ex) ifs tc) (hs:∀ x,foldedSetIterable iter X.env x = pure x:=by intro _; rfl) :
    PE X (.ListComp elt [⟨tg,iter,ifs,0⟩] scope pos) (tComp wi te tc g tn.length is):=by
  intro pins s σ H Q I h
  rw [eval_ListComp]
  refine wpAny_comprehension_free (use:=none) rfl hs (ck.cls fun x hx => I.ok.has x (ck.outk x hx)) ck.kind ck.nms (thn (hi pins s σ H _ I h) fun v s1 h1 => thn h1 fun itv s2 h2 => ?_)
  refine comp_run (RR:=fun acc C => compPost (model X.prog X.w) X.A X.xe none (EP X pins σ Q) acc C) (ok:=fun X => X.calm = true) ck (fun _ _ _ _ => hc) hg he ht (pie_g h2) fun acc C H' s' m I' hn hC hL hcl hpn hsz q => ?_
  refine ⟨m,hn,fun h' sb => ⟨.ref acc,H',?_,rfl,q⟩⟩
  exact I'.turned (t':=s'.toks) (fun b o hb e => sb.extBut b o hb e) hC hL (.inr hsz) hcl hpn
theorem ps_setC {i:Nat} {x:Str} {pos' spos:Pos} (hN:X.N.Nodup) (hi':X.N[i]? = some x) (hx:Loc X.env.scope x) (ck:CompOk X scope tn names is) (hc:X.calm = true) (hi:PI X tg iter wi)
    (hg:∀ C s0 H0 ex,PG (cxComp X scope (capsOf X.env names) (tn ++ names) C s0 H0 ex) tg g) (he:∀ C s0 H0 ex,PE (cxComp X scope (capsOf X.env names) (tn ++ names) C s0 H0 ex) elt te)
    (ht:∀ C s0 H0 ex,PTs (cxComp X scope (capsOf X.env names) (tn ++ names) C s0 H0 ex) ifs tc) (hs:∀ x,foldedSetIterable iter X.env x = pure x:=by intro _; rfl)
    (hsw:swapsWith (.ListComp elt [⟨tg,iter,ifs,0⟩] scope pos) (some (.Name x pos')) spos.line X.env = pure true:=by rfl) (hf:X.fn x = true ∨ X.env.scope.names.lookup x = some .local:=by first | exact .inl rfl | exact .inr rfl | assumption) :
    PS X (.Assign [.Name x pos'] (.ListComp elt [⟨tg,iter,ifs,0⟩] scope pos) spos) (tAsg (tComp wi te tc g tn.length is) (gName i)):=by
  intro pins s σ H D I h
  rw [exec_Assign_Name_used _ _ _ _ hsw]
  refine wpAny_bind (wpAny_standAt (wpAny_bind ?_))
  show wpAny _ X.A (do let _ ← comprehension (.ListComp elt [⟨tg,iter,ifs,0⟩] scope pos) scope X.env _ (newList []) false (eval iter X.env) (some (assign (.Name x pos') X.env))) _ _ s
  refine wpAny_bind (wpAny_mono (wpAny_comprehension_free (use:=some (assign (.Name x pos') X.env)) (Q:=fun _ s' => SP X pins D .next s') rfl hs (ck.cls fun x hx => I.ok.has x (ck.outk x hx)) ck.kind ck.nms
    (thn (hi pins s σ H _ I h) fun v s1 h1 => thn h1 fun itv s2 h2 => ?_)) (fun _ s' hq => wpAny_pure (wpAny_pure hq)) fun _ _ e => e)
  refine comp_run (RR:=fun acc C => compPost (model X.prog X.w) X.A X.xe (some (assign (.Name x pos') X.env)) (fun _ s' => SP X pins D .next s') acc C) (ok:=fun X => X.calm = true) ck (fun _ _ _ _ => hc) hg he ht (pie_g h2) fun acc C H' s' m I' hn hC hL hcl hpn hsz q => ?_
  show wpAny _ X.A (assign (.Name x pos') X.env (.ref acc)) _ _ s'
  refine wpAny_assign_Name (store_ok2 I' hN hi' hx (v:=.ref acc) rfl (fun s'' I'' sb => ?_) hf)
  obtain ⟨a,sb,ha⟩:=sb
  have hne:C ≠ a:=by
    rcases ha with rfl | ha
    . exact hL
    . exact fun z => hcl x a ha z.symm
  refine ⟨m,hn.sameBut sb hne,fun h' sb' => ⟨_,H',I''.turned (t':=s''.toks) (fun b o hb e => sb'.extBut b o hb e) hC hL (.inr hsz) hcl hpn,q⟩⟩
end
section
variable {te:TE} {Q:VK} {H:Hp} {σ caps:St} {wi:TI} {tc:TT} {K:PySem.W.Frag}
theorem r_comp {o:Option TT} {g:TG} {k:Nat} {is:List Nat} (h:wi σ H (compK te o g (List.replicate k none) (capV σ is) Q)):tComp wi te o g k is σ H Q:=h
theorem len1 {us:St} (h:us.length = 1):∃ o,us = [o]:=by
  cases us with
  | nil => cases h
  | cons o r =>
    cases r with
    | nil => exact ⟨o,rfl⟩
    | cons _ _ => simp at h
noncomputable def cW (n:Nat) (acc:Addr) (Pv:Nat -> List V -> Hp -> Prop):Nat -> Nat -> List V -> Hp -> Prop:=fun i m ys H1 => m = n - i /\ i <= n /\ ys.length = i /\ H1 acc = some (.lst ys) /\ Pv i ys H1
noncomputable def cNext (n:Nat) (acc:Addr) (Pv:Nat -> List V -> Hp -> Prop) (ys:List V) (i:Nat):VK:=fun y H3 => H3 acc = some (.lst ys) /\ ∃ m',m' < n - i /\ cW n acc Pv (i + 1) m' (ys ++ [y]) (upd H3 acc (.lst (ys ++ [y])))
theorem c_next {n:Nat} {acc:Addr} {Pv:Nat -> List V -> Hp -> Prop} {ys:List V} {i:Nat} {y:V} {H3:Hp} (hlt:i < n) (hl:ys.length = i) (ha:H3 acc = some (.lst ys)) (p:Pv (i + 1) (ys ++ [y]) (upd H3 acc (.lst (ys ++ [y])))):cNext n acc Pv ys i y H3 :=
  ⟨ha,n - (i + 1),by omega,rfl,hlt,by rw [List.length_append,hl]; rfl,upd_same,p⟩
theorem r_compR {lo:Int} {n:Nat} (hn:n <= 1000) (Pv:Addr -> Nat -> List V -> Hp -> Prop) (h0:∀ acc,H acc = none -> Pv acc 0 [] (upd H acc (.lst [])))
    (hs:∀ acc i ys H1,H acc = none -> i < n -> ys.length = i -> H1 acc = some (.lst ys) -> Pv acc i ys H1 -> te (some (.int (lo + i)) :: caps) H1 (cNext n acc (Pv acc) ys i))
    (hd:∀ acc ys H1,H acc = none -> H1 acc = some (.lst ys) -> ys.length = n -> Pv acc n ys H1 -> Q (.ref acc) H1):compK te none (gName 0) (List.replicate 1 none) caps Q (Itr lo n) H:=by
  intro acc hacc
  refine ⟨cW n acc (Pv acc),⟨n,by simp,Nat.zero_le _,rfl,upd_same,h0 acc hacc⟩,?_⟩
  rintro i m ys H1 ⟨rfl,hi,hl,ha,p⟩
  refine ⟨ha,?_⟩
  by_cases hlt:i < n
  . refine .inr ⟨small1000 (by omega),hlt,fun us x H' hu y => ?_⟩
    obtain ⟨e,y⟩:=y
    subst e y
    obtain ⟨o,rfl⟩:=len1 hu
    exact ⟨⟨[some (.int (lo + i))],rfl,rfl⟩,hs acc i ys _ hacc hlt hl ha p⟩
  . have e:i = n:=by omega
    subst e
    exact .inl ⟨Nat.le_refl _,hd acc ys H1 hacc ha hl p⟩
theorem r_compL {a:Addr} {xs:List V} (hn:xs.length <= 1000) (Pv:Addr -> Nat -> List V -> Hp -> Prop) (h0:∀ acc,H acc = none -> Pv acc 0 [] (upd H acc (.lst []))) (hl':∀ acc i ys H1,H acc = none -> i <= xs.length -> Pv acc i ys H1 -> SqL K H1 a xs)
    (hs:∀ acc i ys H1 x,H acc = none -> xs[i]? = some x -> ys.length = i -> H1 acc = some (.lst ys) -> Pv acc i ys H1 -> te (some x :: caps) H1 (cNext xs.length acc (Pv acc) ys i))
    (hd:∀ acc ys H1,H acc = none -> H1 acc = some (.lst ys) -> ys.length = xs.length -> Pv acc xs.length ys H1 -> Q (.ref acc) H1):compK te none (gName 0) (List.replicate 1 none) caps Q (Itl K a) H:=by
  intro acc hacc
  refine ⟨cW xs.length acc (Pv acc),⟨xs.length,by simp,Nat.zero_le _,rfl,upd_same,h0 acc hacc⟩,?_⟩
  rintro i m ys H1 ⟨rfl,hi,hl,ha,p⟩
  have q:=hl' acc i ys H1 hacc hi p
  refine ⟨ha,?_⟩
  by_cases hlt:i < xs.length
  . refine .inr ⟨small1000 (by omega),⟨xs,xs[i],q,by simp [hlt]⟩,fun us x H' hu y => ?_⟩
    obtain ⟨e,y⟩:=y
    subst e
    obtain ⟨o,rfl⟩:=len1 hu
    exact ⟨⟨[some x],rfl,rfl⟩,hs acc i ys _ x hacc (y xs q) hl ha p⟩
  . have e:i = xs.length:=by omega
    subst e
    exact .inl ⟨⟨xs,q,Nat.le_refl _⟩,hd acc ys H1 hacc ha hl p⟩
end
end L2
namespace L2
open PySem
section
variable {H:Hp} {Q:VK} {u v:V} {a b c d:Int} {m n:Nat} {K:PySem.W.Frag}
end
end L2
namespace L2
theorem rat_of {t b f g:Int} (hb:b ≠ 0) (hg:0 < g) (hc:Int.gcd f g = 1) (e:f * b = t * g):(Rat.divInt t b).num = f /\ ((Rat.divInt t b).den:Int) = g:=by
  obtain ⟨n,rfl⟩:∃ n:Nat,g = n:=⟨g.toNat,by omega⟩
  have h1:Rat.divInt t b = Rat.divInt f n:=(Rat.divInt_eq_divInt_iff hb (by omega)).mpr e.symm
  have h2:Rat.divInt f n = Rat.mk' f n (by omega) hc:=Rat.num_divInt_den (Rat.mk' f n (by omega) hc)
  rw [h1,h2]
  exact ⟨rfl,rfl⟩
theorem dvd_cop' {k n m:Int} (h:k ∣ n * m) (g:Int.gcd k n = 1):k ∣ m:=by
  have q:=Int.dvd_gcd_mul_iff_dvd_mul.mpr h
  rw [g] at q
  simpa using q
noncomputable def Sz (n:Nat) (q:Rat):Prop:=q.num.natAbs < 2 ^ n /\ q.den < 2 ^ n
theorem Sz.mono {m n:Nat} {q:Rat} (h:Sz m q) (l:m <= n):Sz n q :=
  have:=Nat.pow_le_pow_right (n:=2) (by decide) l
  ⟨Nat.lt_of_lt_of_le h.1 this,Nat.lt_of_lt_of_le h.2 this⟩
theorem Sz.divInt {t b:Int} {n:Nat} (hb:b ≠ 0) (ht:t.natAbs < 2 ^ n) (hs:b.natAbs < 2 ^ n):Sz n (Rat.divInt t b):=by
  have e:Rat.divInt (Rat.divInt t b).num (Rat.divInt t b).den = Rat.divInt t b:=Rat.num_divInt_den _
  have hd:((Rat.divInt t b).den:Int) ≠ 0:=by have:=(Rat.divInt t b).den_pos; omega
  rw [Rat.divInt_eq_divInt_iff hd hb] at e
  generalize hq:Rat.divInt t b = q at *
  -- num * b = t * den,lowest
  have hc:Int.gcd q.num q.den = 1:=q.reduced
  have h1:(q.den:Int) ∣ b:=dvd_cop' (k:=q.den) (n:=q.num) ⟨t,by rw [e,Int.mul_comm]⟩ (by rw [Int.gcd_comm]; exact hc)
  obtain ⟨m,em⟩:=h1
  have e2:t = q.num * m:=by
    have:t * q.den = (q.num * m) * q.den:=by rw [← e,em]; grind
    exact Int.eq_of_mul_eq_mul_right hd this
  have m0:m ≠ 0:=by rintro rfl; simp at em; exact hb em
  have hm:1 <= m.natAbs:=by omega
  constructor
  . refine Nat.lt_of_le_of_lt ?_ ht
    rw [e2,Int.natAbs_mul]
    exact Nat.le_mul_of_pos_right _ hm
  . refine Nat.lt_of_le_of_lt ?_ hs
    rw [em,Int.natAbs_mul]
    have:(q.den:Int).natAbs = q.den:=by omega
    rw [this]
    exact Nat.le_mul_of_pos_right _ hm
theorem add_divInt (q r:Rat):q + r = Rat.divInt (q.num * r.den + r.num * q.den) (q.den * r.den):=by
  have h1:(q.den:Int) ≠ 0:=by have:=q.den_pos; omega
  have h2:(r.den:Int) ≠ 0:=by have:=r.den_pos; omega
  have:=Rat.divInt_add_divInt q.num r.num h1 h2
  rw [Rat.num_divInt_den,Rat.num_divInt_den] at this
  exact this
theorem pow_lt2 {x y m n:Nat} (h1:x < 2 ^ m) (h2:y < 2 ^ n):x * y < 2 ^ (m + n):=by
  rw [Nat.pow_add]
  exact Nat.mul_lt_mul'' h1 h2
theorem Sz.add {m n:Nat} {q r:Rat} (h1:Sz m q) (h2:Sz n r):Sz (m + n + 1) (q + r):=by
  rw [add_divInt]
  have h3:=q.den_pos
  have h4:=r.den_pos
  refine Sz.divInt (Int.ne_of_gt (Int.mul_pos (by omega) (by omega))) ?_ ?_
  . have a1:=pow_lt2 h1.1 h2.2
    have a2:=pow_lt2 h2.1 h1.2
    have e1:(q.num * r.den).natAbs = q.num.natAbs * r.den:=by rw [Int.natAbs_mul]; rfl
    have e2:(r.num * q.den).natAbs = r.num.natAbs * q.den:=by rw [Int.natAbs_mul]; rfl
    rw [Nat.add_comm n m] at a2
    rw [Nat.pow_succ]
    omega
  . have a1:=pow_lt2 h1.2 h2.2
    have e1:((q.den:Int) * r.den).natAbs = q.den * r.den:=by rw [Int.natAbs_mul]; rfl
    rw [Nat.pow_succ]
    omega
theorem Sz.neg {n:Nat} {q:Rat} (h:Sz n q):Sz n (-q):=⟨by rw [Rat.neg_num,Int.natAbs_neg]; exact h.1,h.2⟩
theorem Sz.sub {m n:Nat} {q r:Rat} (h1:Sz m q) (h2:Sz n r):Sz (m + n + 1) (q - r):=by
  rw [Rat.sub_eq_add_neg]
  exact h1.add h2.neg
end L2
namespace L2
noncomputable def Bd (D M:Nat) (q:Rat):Prop:=q.den ∣ D /\ -((M:Nat):Rat) <= q /\ q <= ((M:Nat):Rat)
theorem le_mul1 {a b:Int} (ha:0 <= a) (hb:1 <= b):a <= a * b:=by
  have:=Int.mul_le_mul_of_nonneg_left hb ha
  omega
theorem den_dvd {t b:Int} (hb:b ≠ 0):((Rat.divInt t b).den:Int) ∣ b:=by
  have e:Rat.divInt (Rat.divInt t b).num (Rat.divInt t b).den = Rat.divInt t b:=Rat.num_divInt_den _
  have hd:((Rat.divInt t b).den:Int) ≠ 0:=by have:=(Rat.divInt t b).den_pos; omega
  rw [Rat.divInt_eq_divInt_iff hd hb] at e
  have hc:Int.gcd (Rat.divInt t b).num (Rat.divInt t b).den = 1:=(Rat.divInt t b).reduced
  exact dvd_cop' (n:=(Rat.divInt t b).num) ⟨t,by rw [e,Int.mul_comm]⟩ (by rw [Int.gcd_comm]; exact hc)
theorem over {D:Nat} {q:Rat} (h:q.den ∣ D) (hD:D ≠ 0):∃ a:Int,q = Rat.divInt a D:=by
  obtain ⟨m,e⟩:=h
  refine ⟨q.num * m,?_⟩
  have hq:=q.den_pos
  have e1:Rat.divInt (q.num * m) D = Rat.divInt q.num q.den:=by
    rw [Rat.divInt_eq_divInt_iff (by omega) (by omega),e]
    push_cast
    grind
  rw [e1,Rat.num_divInt_den]
theorem den_add {D:Nat} {q r:Rat} (hD:D ≠ 0) (h1:q.den ∣ D) (h2:r.den ∣ D):(q + r).den ∣ D:=by
  obtain ⟨a,rfl⟩:=over h1 hD
  obtain ⟨b,rfl⟩:=over h2 hD
  rw [Rat.divInt_add_divInt a b (by omega) (by omega)]
  have e:Rat.divInt (a * D + b * D) (D * D) = Rat.divInt (a + b) D:=by
    rw [Rat.divInt_eq_divInt_iff (Int.mul_ne_zero (by omega) (by omega)) (by omega)]
    grind
  rw [e]
  exact Int.natCast_dvd_natCast.mp (den_dvd (by omega))
theorem Bd.add {D M N:Nat} {q r:Rat} (hD:D ≠ 0) (h1:Bd D M q) (h2:Bd D N r):Bd D (M + N) (q + r):=by
  obtain ⟨a1,a2,a3⟩:=h1
  obtain ⟨b1,b2,b3⟩:=h2
  refine ⟨den_add hD a1 b1,?_,?_⟩
  . have e:(((M + N:Nat)):Rat) = (M:Rat) + (N:Rat):=by push_cast; rfl
    rw [e]
    grind
  . have e:(((M + N:Nat)):Rat) = (M:Rat) + (N:Rat):=by push_cast; rfl
    rw [e]
    grind
theorem Bd.mono {D M N:Nat} {q:Rat} (h:Bd D M q) (l:M <= N):Bd D N q:=by
  obtain ⟨a1,a2,a3⟩:=h
  have e:(M:Rat) <= (N:Rat):=by
    rw [Rat.le_iff]
    simp
    omega
  exact ⟨a1,by grind,by grind⟩
theorem Bd.sz {D M n:Nat} {q:Rat} (h:Bd D M q) (hD:D ≠ 0) (h1:D < 2 ^ n) (h2:M * D < 2 ^ n):Sz n q:=by
  obtain ⟨a1,a2,a3⟩:=h
  have hle:=Nat.le_of_dvd (by omega) a1
  have k1:q.num <= M * q.den:=by
    have:=(Rat.le_iff q (M:Rat)).mp a3
    simpa using this
  have k2:-(M * q.den:Int) <= q.num:=by
    have:=(Rat.le_iff (-(M:Rat)) q).mp a2
    have e1:(-(M:Rat)).num = -(M:Int):=by rw [Rat.neg_num]; simp
    have e2:(-(M:Rat)).den = 1:=by rw [Rat.neg_den]; simp
    rw [e1,e2] at this
    simp at this
    have e3:-(M:Int) * q.den = -((M:Int) * q.den):=by grind
    omega
  refine ⟨?_,by omega⟩
  have k3:M * q.den <= M * D:=Nat.mul_le_mul_left _ hle
  have k4:((M * q.den:Nat):Int) = (M:Int) * q.den:=by push_cast; rfl
  omega
theorem Bd.of {q:Rat} {M:Nat} (h:q.num.natAbs <= M):Bd q.den M q:=by
  have hp:=q.den_pos
  refine ⟨Nat.dvd_refl _,?_,?_⟩
  . rw [Rat.le_iff]
    have e1:(-(M:Rat)).num = -(M:Int):=by rw [Rat.neg_num]; simp
    have e2:(-(M:Rat)).den = 1:=by rw [Rat.neg_den]; simp
    rw [e1,e2]
    have:(M:Int) <= (M:Int) * q.den:=le_mul1 (by omega) (by omega)
    have e3:-(M:Int) * q.den = -((M:Int) * q.den):=by grind
    simp
    omega
  . rw [Rat.le_iff]
    have:(M:Int) <= (M:Int) * q.den:=le_mul1 (by omega) (by omega)
    simp
    omega
end L2
namespace L2
open PySem
noncomputable def Ris (xs:Array Nat):Prop:=xs.toList.Pairwise (· < ·)
theorem Ris.lt {xs:Array Nat} (h:Ris xs) {i j:Nat} (hij:i < j) (hj:j < xs.size):xs[i]'(Nat.lt_trans hij hj) < xs[j]:=by
  have:=List.pairwise_iff_getElem.mp h i j (by simpa using Nat.lt_trans hij hj) (by simpa using hj) hij
  simpa using this
theorem Ris.le {xs:Array Nat} (h:Ris xs) {i j:Nat} (hij:i <= j) (hj:j < xs.size):xs[i]'(Nat.lt_of_le_of_lt hij hj) <= xs[j]:=by
  rcases Nat.lt_or_eq_of_le hij with h1 | h1
  . exact Nat.le_of_lt (h.lt h1 hj)
  . subst h1
    exact Nat.le_refl _
noncomputable def Stand (xs:Array Nat) (j r:Nat):Prop:=r <= xs.size /\ (∀ k (hk:k < xs.size),k < r -> xs[k] < j) /\ ∀ k (hk:k < xs.size),r <= k -> j <= xs[k]
theorem below_go {xs:Array Nat} {j:Nat} (h:Ris xs):∀ (fuel lo hi:Nat),hi - lo <= fuel -> lo <= hi -> hi <= xs.size -> (∀ k (hk:k < xs.size),k < lo -> xs[k] < j) -> (∀ k (hk:k < xs.size),hi <= k -> j <= xs[k]) -> Stand xs j (SetTable.below.go xs j fuel lo hi)
  | 0,lo,hi,hf,hl,hh,h1,h2 => by
    have:lo = hi:=by omega
    subst this
    unfold SetTable.below.go
    exact ⟨hh,h1,h2⟩
  | fuel + 1,lo,hi,hf,hl,hh,h1,h2 => by
    unfold SetTable.below.go
    by_cases hlt:lo < hi
    . rw [if_pos hlt]
      have hm:(lo + hi) / 2 < xs.size:=by omega
      have eg:xs.getD ((lo + hi) / 2) j = xs[(lo + hi) / 2]:=by simp [Array.getD,hm]
      show Stand xs j (if xs.getD ((lo + hi) / 2) j < j then SetTable.below.go xs j fuel ((lo + hi) / 2 + 1) hi else SetTable.below.go xs j fuel lo ((lo + hi) / 2))
      rw [eg]
      by_cases c:xs[(lo + hi) / 2] < j
      . rw [if_pos c]
        exact below_go h fuel ((lo + hi) / 2 + 1) hi (by omega) (by omega) hh (fun k hk hk' => Nat.lt_of_le_of_lt (h.le (show k <= (lo + hi) / 2 by omega) hm) c) h2
      . rw [if_neg c]
        exact below_go h fuel lo ((lo + hi) / 2) (by omega) (by omega) (by omega) h1 fun k hk hk' => Nat.le_trans (Nat.le_of_not_lt c) (h.le hk' hk)
    . rw [if_neg hlt]
      have:lo = hi:=by omega
      subst this
      exact ⟨hh,h1,h2⟩
theorem below_stand {xs:Array Nat} (j:Nat) (h:Ris xs):Stand xs j (SetTable.below xs j) :=
  below_go h xs.size 0 xs.size (by omega) (Nat.zero_le _) (Nat.le_refl _) (fun _ _ z => absurd z (Nat.not_lt_zero _)) fun k hk z => absurd hk (Nat.not_lt.mpr z)
theorem ris_put {xs:Array Nat} {j:Nat} (h:Ris xs) (hn:xs[SetTable.below xs j]? ≠ some j):Ris (SetTable.insertAt xs (SetTable.below xs j) j):=by
  have st:=below_stand j h
  generalize SetTable.below xs j = p at st hn
  unfold Ris
  rw [SetTable.toList_insertAt]
  have h1:∀ a ∈ xs.toList.take p,a < j:=fun a ha => by
    obtain ⟨k,hk,e⟩:=List.getElem_of_mem ha
    rw [List.length_take] at hk
    rw [List.getElem_take,Array.getElem_toList] at e
    rw [← e]
    exact st.2.1 k (by simp at hk; omega) (by omega)
  have h2:∀ a ∈ xs.toList.drop p,j < a:=fun a ha => by
    obtain ⟨k,hk,e⟩:=List.getElem_of_mem ha
    rw [List.length_drop,Array.length_toList] at hk
    rw [List.getElem_drop,Array.getElem_toList] at e
    have hp:p < xs.size:=by omega
    have h0:=st.2.2 p hp (Nat.le_refl _)
    have h3:xs[p] ≠ j:=fun z => hn (by rw [Array.getElem?_eq_getElem hp,z])
    have h4:=h.le (show p <= p + k by omega) (by omega)
    rw [← e]
    omega
  refine List.pairwise_append.mpr ⟨h.sublist (List.take_sublist ..),List.pairwise_cons.mpr ⟨h2,h.sublist (List.drop_sublist ..)⟩,fun a ha b hb => ?_⟩
  rcases List.mem_cons.mp hb with rfl | hb
  . exact h1 a ha
  . exact Nat.lt_trans (h1 a ha) (h2 b hb)
noncomputable def Tb (w:World) (t:SetTable) (_n:Nat):Prop:=t.led = !(w.params.followText "set-order") /\ Ris t.place /\ t.dummies = #[]
theorem ris_range (n:Nat):Ris (Array.range n):=by
  unfold Ris
  rw [Array.toList_range]
  exact List.pairwise_lt_range
theorem has_nil (j:Nat):SetTable.has #[] j = false:=by
  unfold SetTable.has
  simp
theorem probe_free {t:SetTable} {f:Nat -> Int} {h:Int} (ht:t.dummies = #[]):∀ (fuel:Nat) (p:SetTable.Probe) (j:Nat) (d:Option Nat),SetTable.probe.go t f h fuel p = some (.empty j d) -> p.dummy = none -> t.slot j = .empty /\ d = none
  | 0,p,j,d,e,hd => nomatch e
  | fuel + 1,p,j,d,e,hd => by
    have adv:(t.advance p).dummy = none:=by
      unfold SetTable.advance
      split
      . exact hd
      . exact hd
    unfold SetTable.probe.go at e
    cases hs:t.slot p.j with
    | empty =>
      rw [hs] at e
      have e:=Option.some.inj e
      injection e with e1 e2
      exact ⟨by rw [← e1]; exact hs,by rw [← e2]; exact hd⟩
    | dummy =>
      exfalso
      unfold SetTable.slot at hs
      dsimp only at hs
      rw [ht,has_nil,if_neg Bool.false_ne_true] at hs
      split at hs <;> cases hs
    | live i =>
      rw [hs] at e
      dsimp only at e
      split at e
      . exact nomatch Option.some.inj e
      . exact probe_free ht fuel _ j d e adv
theorem slot_free {t:SetTable} {j:Nat} (h:t.slot j = .empty):t.place[SetTable.below t.place j]? ≠ some j:=fun e => by
  unfold SetTable.slot at h
  dsimp only at h
  rw [e,if_pos (by simp)] at h
  cases h
theorem layNew_tb {w:World} {t:SetTable} {n m:Nat} (es:Array (Int×Value)) (h:Int) (x:Value) (ht:Tb w t n):Tb w (layNew t es h x).2.1 m:=by
  obtain ⟨h1,h2,h3⟩:=ht
  unfold layNew
  split
  . rename_i slot wd e
    dsimp only
    have hp:Tb w (t.put slot).1 m:=by
      have hs:t.place[SetTable.below t.place slot]? ≠ some slot:=by
        unfold SetTable.freeSlot at e
        split at e
        . rename_i j d e'
          have:=probe_free h3 _ _ _ _ e' rfl
          rw [this.2] at e
          have e:=Option.some.inj e
          have e1:j = slot:=congrArg Prod.fst e
          rw [← e1]
          exact slot_free this.1
        . cases e
      unfold SetTable.put
      refine ⟨h1,ris_put h2 hs,?_⟩
      show (if SetTable.has t.dummies slot then _ else t.dummies) = #[]
      rw [h3,has_nil,if_neg Bool.false_ne_true]
    unfold SetTable.orStandIn
    split
    . exact hp
    . exact ⟨h1,ris_range _,rfl⟩
  . exact ⟨h1,ris_range _,rfl⟩
theorem relay_tb {w:World} {t:SetTable} {n m:Nat} (es:Array (Int×Value)) (k:Nat) (ht:Tb w t n):Tb w (relayAll t es k).2.1 m:=by
  obtain ⟨h1,h2,h3⟩:=ht
  unfold relayAll
  split
  . rename_i t' order e
    unfold SetTable.relaid SetTable.laid at e
    cases hc:SetTable.layClean (SetTable.sizeAbove k - 1) (Array.map (fun x => x.fst) es) with
    | none =>
      rw [hc] at e
      exact nomatch e
    | some ow =>
    rw [hc] at e
    have e3:=congrArg Prod.fst (Option.some.inj e)
    dsimp only at e3
    subst e3
    dsimp only
    split
    . refine ⟨h1,?_,rfl⟩
      unfold Ris
      dsimp only
      refine List.pairwise_map.mpr (List.pairwise_filterMap.mpr (List.pairwise_lt_range.imp fun {a b} hab x hx y hy => ?_))
      simp only [Option.map_eq_some_iff] at hx hy
      obtain ⟨_,_,rfl⟩:=hx
      obtain ⟨_,_,rfl⟩:=hy
      exact hab
    . exact ⟨h1,ris_range _,rfl⟩
  . exact ⟨h1,ris_range _,rfl⟩
section
variable {prog:Program} {w:World} {K:Type} [DecidableEq K] {knd:KeyKind prog w K} {A:Around} {E:Value -> Shared -> Prop} {s:Shared}
theorem add_text {a:Addr} {o:Obj} {es:Array (Int×Value)} {ep:Nat} {t:SetTable} {x:Value} {k:K} {Q:Bool -> Shared -> Prop} (hsc:x.scannable = true) (hkey:knd.is k x = true) (ho:s.heap.get? a = some o) (hex:o.ExactSet) (hd:o.data = .set es ep t)
    (hel:ElemsOf knd es.toList) (hb:es.size + 1 < scanBound) (hf:t.fits es.size = true) (ht:Tb w t es.size)
    (h1:(∃ e ∈ es.toList,knd.is k e.2 = true) -> Q false s)
    (h2:(∀ e ∈ es.toList,knd.is k e.2 = false) -> ∀ (h':Heap) (es':Array (Int×Value)) (t':SetTable) (ep':Nat),Heap.SameBut a s.heap h' -> h'.get? a = some { o with data:=.set es' ep' t' } -> List.Perm es'.toList (es.toList ++ [(knd.hash k,x)]) ->
      t'.fits es'.size = true -> Tb w t' es'.size -> Q true { s with heap:=h' }):wpAny (model prog w) A (setAddHashed a x (knd.hash k)) Q E s:=by
  unfold setAddHashed setAddHashedIn
  refine wpAny_holding (wpAny_bind (wpAny_setState_of ho hd hf ?_))
  dsimp only
  rw [byScan_of hsc (by omega) hel,if_pos rfl]
  unfold setAddByScan
  refine wpAny_bind (wpAny_bind (wpAny_rule (wpAny_bind (wpAny_setScan_of hkey ho hd hf hel ?_))))
  cases hr:List.findIdx? (fun e => knd.is k e.2) es.toList with
  | some j =>
    obtain ⟨hj,hpj,_⟩:=List.findIdx?_eq_some_iff_getElem.mp hr
    exact wpAny_pure (wpAny_pure (h1 ⟨_,List.getElem_mem hj,hpj⟩))
  | none =>
    have hno:=List.findIdx?_eq_none_iff.mp hr
    have gw:∀ (b:Bool) {s₁:Shared} {Q':Unit -> Shared -> Prop},Q' () s₁ -> wpAny (model prog w) A (match b with | true => rule "set.scan.the-table-gave-way" | false => pure ()) Q' E s₁:=fun b _ _ hq => by
      cases b
      . exact wpAny_pure hq
      . exact wpAny_rule hq
    dsimp only
    have p1:=layNew_perm t es (knd.hash k) x
    have f1:=layNew_fits t es (knd.hash k) x
    have l1:=fun m => layNew_tb (m:=m) es (knd.hash k) x ht
    generalize layNew t es (knd.hash k) x = L at p1 f1 l1 ⊢
    obtain ⟨es1,t1,wd,gave⟩:=L
    dsimp only at p1 f1 l1 ⊢
    rw [Array.toList_push] at p1
    have hz:es1.size = es.size + 1:=by
      have:=p1.length_eq
      simpa using this
    refine wpAny_bind (gw _ ?_)
    have fin:∀ t2:SetTable,t2.fits es1.size = true -> (∀ m,Tb w t2 m) -> wpAny (model prog w) A (do
        storeSet a es1 t2
        if (!wd && t2.tooFull) = true then do
            (match (relayAll t2 es1 (SetTable.grown es1.size)).2.2 with | true => rule "set.scan.the-table-gave-way" | false => pure ())
            storeSet a (relayAll t2 es1 (SetTable.grown es1.size)).1 (relayAll t2 es1 (SetTable.grown es1.size)).2.1
            pure (some true)
          else pure (some true)) (fun r s₁ => wpAny (model prog w) A (match r with | some added => pure added | none => setAddHashedIn a x (knd.hash k) 99999) Q E s₁) E s:=by
      intro t2 f2 l2
      refine wpAny_bind (wpAny_storeSet_of ho hd ?_ (fits_of_scanBound (by omega)))
      have g1:(s.heap.update a (Obj.putSet es1 t2)).get? a = some { o with data:=.set es1 (ep + 1) t2 }:=by
        have z:=Heap.get?_update_self (Obj.putSet es1 t2) ho (by rw [putSet_of es1 t2 hd]; rfl)
        rw [putSet_of es1 t2 hd] at z
        exact z
      have sb1:=Heap.SameBut.update s.heap a (Obj.putSet es1 t2)
      split
      . have p2:=relayAll_perm t2 es1 (SetTable.grown es1.size)
        have f3:=relayAll_fits t2 es1 (SetTable.grown es1.size)
        have l3:=fun m => relay_tb (m:=m) es1 (SetTable.grown es1.size) (l2 0)
        generalize relayAll t2 es1 (SetTable.grown es1.size) = R at p2 f3 l3 ⊢
        obtain ⟨es2,t3,gave2⟩:=R
        dsimp only at p2 f3 l3 ⊢
        have hz2:es2.size = es1.size:=by
          have:=p2.length_eq
          simpa using this
        refine wpAny_bind (gw _ ?_)
        refine wpAny_bind (wpAny_storeSet_of g1 rfl ?_ (fits_of_scanBound (by omega)))
        have g2:((s.heap.update a (Obj.putSet es1 t2)).update a (Obj.putSet es2 t3)).get? a = some { o with data:=.set es2 (ep + 1 + 1) t3 }:=by
          have z:=Heap.get?_update_self (Obj.putSet es2 t3) g1 (by rw [putSet_of es2 t3 rfl]; rfl)
          rw [putSet_of es2 t3 rfl] at z
          exact z
        exact wpAny_pure (wpAny_pure (h2 hno _ es2 t3 _ (sb1.trans (Heap.SameBut.update _ a _)) g2 (p2.trans p1) f3 (l3 _)))
      . exact wpAny_pure (wpAny_pure (h2 hno _ es1 t2 _ sb1 g1 p1 f2 (l2 _)))
    split
    . refine wpAny_bind ?_
      rw [hashByValue_scannable 8 hsc]
      refine wpAny_pure ?_
      cases plainKind x with
      | true =>
        rw [if_pos rfl]
        exact fin t1 f1 l1
      | false =>
        rw [if_neg Bool.false_ne_true]
        exact fin _ (SetTable.fits_plain_off f1) l1
    . refine wpAny_bind (wpAny_pure ?_)
      rw [if_pos rfl]
      exact fin t1 f1 l1
end
end L2
namespace L2
open PySem
section
variable {prog:Program} {w:World} {A:Around} {E:Value -> Shared -> Prop} {s:Shared}
end
end L2
namespace L2
open PySem
noncomputable def setObj (es:Array (Int×Value)) (ep:Nat) (t:SetTable):Obj:={ cls:=.type "set",dict:=none,data:=.set es ep t,slots:=#[] }
noncomputable def IsSI (h:Heap) (it:Addr) (first:Value) (i:Nat) (a:Addr) (n ep:Nat):Prop :=
  ∃ o,h.get? it = some o /\ o.cls = .type "set_iterator" /\ o.data = .fields #[first,.int i 0,.ref a,.int n 0,.int ep 0]
theorem IsSI.typeIs {s:Shared} {it a:Addr} {first:Value} {i n ep:Nat} (x:IsSI s.heap it first i a n ep):s.TypeIs (.ref it) "set_iterator":=let ⟨o,ho,hc,_⟩:=x; ⟨o,ho,hc⟩
section
variable {prog:Program} {w:World} {A:Around} {E:Value -> Shared -> Prop} {s:Shared}
variable {a it:Addr} {es:Array (Int×Value)} {ep i n:Nat} {t:SetTable} {first:Value}
end
end L2
namespace L2
open PySem
section
variable {prog:Program} {w:World} {A:Around} {E:Value -> Shared -> Prop} {s:Shared} {a it:Addr} {es:Array (Int×Value)} {ep i n:Nat} {t:SetTable}
end
section
variable {prog:Program} {w:World} {A:Around} {E:Value -> Shared -> Prop} {s:Shared} {a it:Addr} {es:Array (Int×Value)} {ep i n:Nat} {t:SetTable}
theorem IsSI.at {h h':Heap} {first:Value} (x:IsSI h it first i a n ep) (e:∀ o,h.get? it = some o -> h'.get? it = some o):IsSI h' it first i a n ep:=let ⟨o,ho,r⟩:=x; ⟨o,e _ ho,r⟩
end
end L2
namespace L2
open PySem
section
variable {prog:Program} {w:World} {A A₂:Around} {E:Value -> Shared -> Prop} {s:Shared} {a it:Addr} {es:Array (Int×Value)} {ep i n:Nat} {t:SetTable}
end
end L2
namespace L2
open PySem
section
variable {prog:Program} {w:World} {A A₂:Around} {E:Value -> Shared -> Prop} {s:Shared} {a it:Addr} {es:Array (Int×Value)} {ep i n:Nat} {t:SetTable}
end
end L2
namespace L2
open PySem
noncomputable def txKind (prog:Program) (w:World):KeyKind prog w Str where
  is:=Value.isStrOf
  hash:=hashStr w
  inj:=Value.isStrOf_inj
  byValue:=fun k v h => by obtain ⟨t,rfl⟩:=Value.isStrOf_shape h; rfl
  pyHash:=fun hv h => by obtain ⟨t,rfl⟩:=Value.isStrOf_shape hv; exact wpAny_pyHash_str h
  eqBool:=fun hu hv h => by
    obtain ⟨t,rfl⟩:=Value.isStrOf_shape hu
    obtain ⟨u,rfl⟩:=Value.isStrOf_shape hv
    exact wpAny_eqBool_str h
  «strs»:=fun k x t v h => by
    obtain ⟨u,e⟩:=Value.isStrOf_shape h
    cases e
    cases v <;> rfl
noncomputable def txOf:Value -> Str
  | .str x _ => x
  | _ => ⟨#[]⟩
noncomputable def TxSet (w:World) (h:Heap) (a:Addr) (xs:List Str):Prop :=
  ∃ es ep t,h.get? a = some (setObj es ep t) /\ (∀ e ∈ es.toList,∃ y u,e = (hashStr w y,Value.str y u)) /\ es.toList.map (fun e => txOf e.2) = xs /\ xs.Nodup /\ es.size < scanBound /\ t.fits es.size = true /\ Tb w t es.size
theorem TxSet.at {w:World} {h h':Heap} {a:Addr} {xs:List Str} (x:TxSet w h a xs) (e:∀ o,h.get? a = some o -> h'.get? a = some o):TxSet w h' a xs :=
  let ⟨es,ep,t,g,r⟩:=x; ⟨es,ep,t,e _ g,r⟩
theorem TxSet.size {w:World} {h:Heap} {a:Addr} {xs:List Str} (x:TxSet w h a xs):xs.length < scanBound:=by
  obtain ⟨es,ep,t,g,_,e,_,b,_⟩:=x
  rw [← e]
  simpa using b
section
variable {prog:Program} {w:World} {A:Around} {E:Value -> Shared -> Prop} {s:Shared} {a:Addr}
theorem add_tx {xs:List Str} {y:Str} {tk:Tok} {Q:Bool -> Shared -> Prop} (hx:TxSet w s.heap a xs) (hb:xs.length + 1 < scanBound)
    (h1:y ∈ xs -> Q false s) (h2:y ∉ xs -> ∀ h' xs',Heap.SameBut a s.heap h' -> xs'.Perm (xs ++ [y]) -> TxSet w h' a xs' -> Q true { s with heap:=h' }):wpAny (model prog w) A (setAddHashed a (.str y tk) (hashStr w y)) Q E s:=by
  obtain ⟨es,ep,t,g,hel,hxs,hnd,hsz,hf,ht⟩:=hx
  have hl:xs.length = es.size:=by rw [← hxs]; simp
  have hE:ElemsOf (txKind prog w) es.toList:=fun e he => by
    obtain ⟨z,u,rfl⟩:=hel e he
    exact ⟨⟨z,by show Value.isStrOf z (.str z u) = true; simp [Value.isStrOf],rfl⟩,rfl⟩
  have his:∀ e ∈ es.toList,((txKind prog w).is y e.2 = true ↔ txOf e.2 = y):=fun e he => by
    obtain ⟨z,u,rfl⟩:=hel e he
    constructor
    . intro q
      obtain ⟨u',q'⟩:=Value.isStrOf_shape (show Value.isStrOf y (.str z u) = true from q)
      cases q'
      rfl
    . intro q
      have q:z = y:=q
      subst q
      show Value.isStrOf z (.str z u) = true
      simp [Value.isStrOf]
  refine add_text (knd:=txKind prog w) (k:=y) rfl (by show Value.isStrOf y (.str y tk) = true; simp [Value.isStrOf]) g ⟨rfl,rfl,rfl⟩ rfl hE (by omega) hf ht (fun ⟨e,he,q⟩ => h1 ?_) fun hno h' es' t' ep' sb g' hp hf' ht' => h2 ?_ h' (es'.toList.map fun e => txOf e.2) sb ?_ ⟨es',ep',t',g',?_,rfl,?_,?_,hf',ht'⟩
  . rw [← hxs]
    exact List.mem_map.mpr ⟨e,he,(his e he).mp q⟩
  . intro hm
    rw [← hxs] at hm
    obtain ⟨e,he,q⟩:=List.mem_map.mp hm
    have:=hno e he
    rw [(his e he).mpr q] at this
    cases this
  . have q:=hp.map fun e => txOf e.2
    rw [List.map_append,hxs] at q
    exact q
  . intro e he
    rcases List.mem_append.mp (hp.mem_iff.mp he) with q | q
    . exact hel e q
    . rw [List.mem_singleton] at q
      exact ⟨y,tk,q⟩
  . have q:=hp.map fun e => txOf e.2
    rw [List.map_append,hxs] at q
    refine q.nodup_iff.mpr (List.nodup_append.mpr ⟨hnd,by simp,fun z hz z' hz' => ?_⟩)
    have hz':z' = y:=by simpa [txOf] using hz'
    subst hz'
    rintro rfl
    rw [← hxs] at hz
    obtain ⟨e,he,q⟩:=List.mem_map.mp hz
    have:=hno e he
    rw [(his e he).mpr q] at this
    cases this
  . have:=hp.length_eq
    simp at this
    omega
end
section
variable {prog:Program} {w:World} {A:Around} {R:Result -> Shared -> Prop} {I:Addr} {fp wr:List Addr} {G:Array GenState -> Array GenState -> Prop} {n:Nat} {P:Nat -> Value -> Prop} {St:Nat -> Shared -> Prop}
theorem entry_su_loop:entryFor table "set.update.loop" = some Builtin.«set.update.loop»:=entryFor_of_tree (by kernel_rfl)
theorem plain_su_loop:plainId "set.update.loop" = true:=by decide +kernel
theorem fill_tx (W:WalksS prog w A.in1 I fp wr G n P St) (S:Addr) (hSf:S ∉ fp) (val:Nat -> Str) (hval:∀ i v,P i v -> ∃ t,v = .str (val i) t) (hb:n + 1 < scanBound) :
    ∀ (k i:Nat) (s:Shared) (xs:List Str),n - i = k -> i <= n -> St i s -> TxSet w s.heap S xs -> xs.length <= i -> (∀ z,z ∈ xs ↔ ∃ j,j < i /\ val j = z) ->
      (∀ s' xs',Moved (S :: wr) G s s' -> TxSet w s'.heap S xs' -> (∀ z,z ∈ xs' ↔ ∃ j,j < n /\ val j = z) -> R (.ok (.ret .none)) s') ->
      codeAny (model prog w) A (.builtin "set.update.loop" ⟨[.ref S,.ref I],[]⟩) R s:=by
  have hSw:S ∉ wr:=fun h => hSf (W.sub _ h)
  have sub:∀ b ∈ wr,b ∈ S :: wr:=fun b hb => List.mem_cons_of_mem _ hb
  intro k
  induction k with
  | zero =>
    intro i s xs hk hi hst hS hl hm hR
    have:i = n:=by omega
    subst this
    refine codeAny_builtin entry_su_loop ?_
    rw [Around.under_plainId plain_su_loop _]
    show wpAny _ A.in1 (pyNext (.ref I) >>= _) _ _ s
    refine wpAny_bind (W.done s _ _ hst fun s' mv => wpAny_pure (hR s' xs (mv.mono sub) (hS.at fun o e => mv.heap S _ hSw e) hm))
  | succ k ih =>
    intro i s xs hk hi hst hS hl hm hR
    have hlt:i < n:=by omega
    refine codeAny_builtin entry_su_loop ?_
    rw [Around.under_plainId plain_su_loop _]
    show wpAny _ A.in1 (pyNext (.ref I) >>= _) _ _ s
    refine wpAny_bind (W.item i s _ _ hlt hst fun v s' hP hst' mv => ?_)
    obtain ⟨tk,rfl⟩:=hval i v hP
    have hS':TxSet w s'.heap S xs:=hS.at fun o e => mv.heap S _ hSw e
    show wpAny _ A.in1 (holding [Value.str (val i) tk] (setAdd S (.str (val i) tk)) >>= _) _ _ s'
    refine wpAny_bind (wpAny_holding ?_)
    unfold setAdd
    refine wpAny_holding (wpAny_bind (wpAny_pyHash_str ?_))
    have go:∀ (s2:Shared) (xs2:List Str),Moved (S :: wr) G s s2 -> St (i + 1) s2 -> TxSet w s2.heap S xs2 -> xs2.length <= i + 1 -> (∀ z,z ∈ xs2 ↔ z ∈ xs ∨ z = val i) -> codeAny (model prog w) A (.builtin "set.update.loop" ⟨[.ref S,.ref I],[]⟩) R s2:=fun s2 xs2 mv2 st2 t2 l2 m2 => by
      refine ih (i + 1) s2 xs2 (by omega) (by omega) st2 t2 l2 (fun z => ?_) fun s3 xs3 mv3 t3 m3 => hR s3 xs3 (Moved.trans W.gtrans mv2 mv3) t3 m3
      rw [m2,hm]
      constructor
      . rintro (⟨j,hj,e⟩ | rfl)
        . exact ⟨j,by omega,e⟩
        . exact ⟨i,by omega,rfl⟩
      . rintro ⟨j,hj,e⟩
        by_cases q:j < i
        . exact .inl ⟨j,q,e⟩
        . have:j = i:=by omega
          subst this
          exact .inr e.symm
    refine add_tx (s:={ s' with toks:=s'.toks + 1 }) hS' (by omega) (fun hin => ?_) fun hout h' xs' sb hp ht => ?_
    . refine wpAny_pure ⟨plainId_quiet plain_su_loop _,go _ xs ((mv.mono sub).then_heap (Nat.le_succ _) fun b o _ e => e) ?_ hS' (by omega) fun z => ⟨.inl,fun q => q.elim id fun e => e ▸ hin⟩⟩
      exact W.frame _ s' _ _ hst' (Nat.le_succ _) fun b _ o e => e
    . refine wpAny_pure ⟨plainId_quiet plain_su_loop _,go _ xs' ((mv.mono sub).then_heap (Nat.le_succ _) fun b o hb e => ?_) ?_ ht ?_ fun z => ?_⟩
      . rw [sb.2 b (fun q:b = S => hb (by rw [q]; exact List.mem_cons_self))]; exact e
      . exact W.frame _ s' _ _ hst' (Nat.le_succ _) fun b hb o e => by rw [sb.2 b (fun q:b = S => hSf (by rw [← q]; exact hb))]; exact e
      . have:=hp.length_eq
        simp at this
        omega
      . rw [hp.mem_iff]
        simp
end
end L2
namespace L2
open PySem
section
variable {prog:Program} {w:World} {A:Around} {E:Value -> Shared -> Prop} {s:Shared}
noncomputable abbrev newSetObj (w:World):Obj:=setObj #[] 0 (.fresh 0 0 (!(w.params.followText "set-order")))
theorem set_new1 (a:Value) {Q₁:Value -> Shared -> Prop} (h:Q₁ (.ref s.heap.objs.size) { s with heap:=s.heap.push (newSetObj w) }) :
    codeAny (model prog w) A (.call (.builtin "set.__new__") ⟨[.type "set",a],[]⟩) (wants Q₁ E) s:=by
  refine codeAny_of_tree ?_
  show wpAny _ A.in1 (checkBuiltinCall "set.__new__" ⟨[.type "set",a],[]⟩ >>= fun _ => again (.builtin "set.__new__" ⟨[.type "set",a],[]⟩)) _ _ s
  refine wpAny_bind (wpAny_of_eq (F.newCall_set_1 a) (wpAny_pure ⟨plainId_quiet F.plain_set_new _,codeAny_builtin F.entry_set_new ?_⟩))
  rw [Around.under_plainId F.plain_set_new _]
  unfold Builtin.«set.__new__» Builtin.Frozenset.newClass
  have hsub:=sub_set_self
  obtain ⟨hp,g,d,tk,os⟩:=s
  dsimp only
  wp_walk
  refine wpAny_askSetting (wpAny_pure ?_)
  dsimp only
  simp only [newObj]
  exact wpAny_bind (wpAny_alloc (wpAny_pure (wpAny_pure h)))
theorem txset_new {h:Heap} {a:Addr} (g:h.get? a = some (newSetObj w)):TxSet w h a [] :=
  ⟨#[],0,_,g,fun e he => by simp at he,rfl,List.nodup_nil,by decide,rfl,rfl,List.Pairwise.nil,rfl⟩
set_option maxRecDepth 100000 in
set_option maxHeartbeats 3200000 in
theorem set_texts {l:Addr} {items:Array Value} {xs:List Str} {Q:Value -> Shared -> Prop} (hh:A.handled = none) (hl:s.heap.IsList l items) (hi:∀ (i:Nat) (v:Value),items[i]? = some v -> ∃ t,v = .str (xs.getD i ⟨#[]⟩) t) (hlen:items.size = xs.length) (hb:xs.length + 1 < scanBound)
    (h:∀ h' tk ys,TxSet w h' s.heap.objs.size ys -> (∀ z,z ∈ ys ↔ z ∈ xs) -> (∀ b o,b < s.heap.objs.size -> s.heap.get? b = some o -> h'.get? b = some o) -> Q (.ref s.heap.objs.size) { s with heap:=h',toks:=tk }) :
    wpAny (model prog w) A (call (.type "set") [.ref l]) Q E s:=by
  obtain ⟨c,tl,hmro⟩:=F.called_set.mro
  have hmade:=F.called_set.made
  have hsub:=F.called_set.sub
  refine wpAny_call (codeAny_of_tree ?_)
  show wpAny _ _ (callAny (.type "set") _) _ _ _
  refine wpAny_pure ⟨Code.quiet_builtin _ (by decide +kernel),codeAny_builtin F.entry_type_call ?_⟩
  rw [Around.under_plain (weight_type_call_type "set" [.ref l] []) rfl]
  have h1:=F.called_set.notType
  have h2:=F.called_set.canCreate
  have hct:=F.typeCall_set_1 (.ref l)
  repeat (any_goals (first | assumption | wp_step))
  refine codeAny_mono (set_new1 (.ref l) (E:=E) (Q₁:=fun obj s₁ => obj = .ref s.heap.objs.size /\ s₁ = { s with heap:=s.heap.push (newSetObj w) }) ⟨rfl,rfl⟩) fun r s₁ hr => ?_
  cases r with
  | error e => exact hr
  | ok fl =>
    cases fl with
    | ret obj =>
      obtain ⟨rfl,rfl⟩:=hr
      have hS:(s.heap.push (newSetObj w)).get? s.heap.objs.size = some (newSetObj w):=Heap.get?_push_size _ rfl
      have hT:Shared.TypeIs { s with heap:=s.heap.push (newSetObj w) } (.ref s.heap.objs.size) "set":=⟨_,hS,rfl⟩
      have hli:=F.called_set.init.lookup
      have hbi:=F.called_set.init.bind (.ref s.heap.objs.size)
      repeat (any_goals (first | assumption | wp_step))
      refine codeAny_mono (codeAny_call_builtin (R:=wants (fun r s₂ => r = .none /\ ∃ h' tk ys,s₂ = { s with heap:=h',toks:=tk } /\ TxSet w h' s.heap.objs.size ys /\ (∀ z,z ∈ ys ↔ z ∈ xs) /\
          (∀ b o,b < s.heap.objs.size -> s.heap.get? b = some o -> h'.get? b = some o)) E) F.called_set.init.plain F.entry_set_init (check_set_init_1 hT ?_)) fun r₂ s₂ hr₂ => ?_
      . obtain ⟨ol,hol,hcl,nl,hdl⟩:=hl
        obtain ⟨ocls,odict,odata,oslots⟩:=ol
        simp only at hcl hdl
        subst hcl; subst hdl
        have hol':(s.heap.push (newSetObj w)).get? l = some { cls:=.type "list",dict:=odict,data:=.seq items nl,slots:=oslots }:=Heap.get?_push_of_some _ hol
        have hsls:=F.sub_list_set
        have hslf:=F.sub_list_frozenset
        have hne:(Value.type "list" == Value.type "dict") = false:=by decide
        have hl1:(s.heap.push (newSetObj w)).IsList l items:=⟨_,hol',rfl,nl,rfl⟩
        unfold Builtin.«set.__init__» noKeywords Builtin.Frozenset.updateFrom
        generalize hPI:pyIter = PI
        wp_walk
        subst hPI
        refine wpAny_pyIter_list hl1 ?_
        refine wpAny_bind (wpAny_runValue ?_)
        have hlS:l < s.heap.objs.size:=Heap.lt_size hol
        have hh3:A.in1.in1.in1.handled = none:=by simp [hh]
        have zP:(s.heap.push (newSetObj w)).objs.size = s.heap.objs.size + 1:=Heap.size_push ..
        have hneI:l ≠ (s.heap.push (newSetObj w)).objs.size:=by rw [zP]; exact Nat.ne_of_lt (Nat.lt_succ_of_lt hlS)
        have hSf:s.heap.objs.size ∉ [(s.heap.push (newSetObj w)).objs.size,l]:=by
          rw [zP]
          simp only [List.mem_cons,List.not_mem_nil,or_false,not_or]
          exact ⟨Nat.ne_of_lt (Nat.lt_succ_self _),Nat.ne_of_gt hlS⟩
        refine fill_tx ((Walks.list hh3 _ l hneI items).toS) s.heap.objs.size hSf (fun i => xs.getD i ⟨#[]⟩) hi (by rw [hlen]; exact hb) (items.size - 0) 0 _ [] (by omega) (Nat.zero_le _)
          ⟨⟨_,Heap.get?_push_size _ rfl,rfl,rfl⟩,(hl1.push _)⟩ (txset_new (Heap.get?_push_of_some _ hS)) (Nat.le_refl _) (fun z => by simp) fun s' ys hm hS' hmem => ?_
        obtain ⟨h',g',d',tk',os'⟩:=s'
        have eg:g' = s.gens:=hm.gens
        have ed:d' = s.drawn:=hm.drawn
        have eo:os' = s.os:=hm.os
        subst eg ed eo
        refine wpAny_pure ?_
        refine wpAny_pure ⟨rfl,h',tk',ys,rfl,hS',fun z => ?_,fun b o hb e => ?_⟩
        . rw [hmem,hlen]
          constructor
          . rintro ⟨j,hj,rfl⟩
            have:xs.getD j ⟨#[]⟩ = xs[j]:=by simp [List.getD,hj]
            rw [this]
            exact List.getElem_mem hj
          . intro hz
            obtain ⟨j,hj,e⟩:=List.getElem_of_mem hz
            exact ⟨j,hj,by simp [List.getD,hj,e]⟩
        . have hb1:b ≠ s.heap.objs.size:=Nat.ne_of_lt hb
          have hb2:b ≠ (s.heap.push (newSetObj w)).objs.size:=by rw [zP]; exact Nat.ne_of_lt (Nat.lt_succ_of_lt hb)
          exact hm.heap b o (by simp only [List.mem_cons,List.not_mem_nil,or_false,not_or]; exact ⟨hb1,hb2⟩) (Heap.get?_push_of_some _ (Heap.get?_push_of_some _ e))
      . cases r₂ with
        | error e => exact hr₂
        | ok fl₂ =>
          cases fl₂ with
          | ret r =>
            obtain ⟨rfl,h',tk,ys,rfl,q1,q2,q3⟩:=hr₂
            repeat (any_goals (first | assumption | wp_step))
            exact h _ _ _ q1 q2 q3
          | _ => exact hr₂.elim
    | _ => exact hr.elim
end
end L2
namespace L2
open PySem PyProof.Rows
section
variable {prog:Program} {w:World} {A:Around} {E:Value -> Shared -> Prop} {s:Shared}
end
end L2
namespace L2
open PySem PyProof.Rows
section
variable {prog:Program} {w:World} {K:Type} [DecidableEq K] {knd:KeyKind prog w K} {A A₂:Around} {E:Value -> Shared -> Prop} {s:Shared} {a it:Addr} {kvs:List (K×Value)} {ep:Nat}
end
end L2
namespace L2
open PySem PyProof.Rows
section
variable {prog:Program} {w:World} {A:Around} {E:Value -> Shared -> Prop} {s:Shared}
variable {K:Type} [DecidableEq K] {knd:KeyKind prog w K}
end
end L2
namespace L2
open PySem PyProof.Rows
section
variable {prog:Program} {w:World} {K:Type} [DecidableEq K] {knd:KeyKind prog w K} {A:Around} {E:Value -> Shared -> Prop} {s:Shared} {d:Addr} {kvs:List (K×Value)} {k:K} {key dflt:Value}
end
end L2
namespace L2
open PySem PyProof.Rows
end L2
namespace L2
open PySem PySem.Spec PyProof.Rows
noncomputable def melt (a:Addr) (H:Hp):Hp:=fun b => if b = a then (match H a with | some (.frz _ u) => some u | o => o) else H b
theorem melt_ne {a b:Addr} {H:Hp} (h:b ≠ a):melt a H b = H b:=by unfold melt; rw [if_neg h]
theorem melt_at {a:Addr} {H:Hp} {o:Obj} {u:HO} (h:H a = some (.frz o u)):melt a H a = some u:=by unfold melt; rw [if_pos rfl,h]
theorem melt_none {a b:Addr} {H:Hp} (h:H b = none):melt a H b = none:=by
  unfold melt
  split
  . rename_i e
    subst e
    rw [h]
  . exact h
theorem melt_old {a b:Addr} {H:Hp} {o:HO} (hn:∀ ob u,o ≠ .frz ob u) (h:H b = some o):melt a H b = some o:=by
  unfold melt
  split
  . rename_i e
    subst e
    rw [h]
    cases o <;> first | rfl | exact absurd rfl (hn _ _)
  . exact h
section
variable {X:Cx} {pins:List (Addr×Obj)} {σ:St} {H:Hp} {s:Shared} {a:Addr}
theorem Inv.melt (I:Inv X pins σ H s) (h0:∀ o u,X.H₀ a ≠ some (.frz o u)):Inv X pins σ (L2.melt a H) s:=by
  refine ⟨I.ok,I.os,I.bare,⟨I.base.keep,I.base.slot,fun b o e n hx => melt_none (I.base.free b o e n hx),I.base.there,fun b xs e => melt_old (fun _ _ z => nomatch z) (I.base.tups b xs e),fun b o u e => ?_,fun b ps e => ?_⟩,
    I.loc,I.cell,melt_none I.free,fun x c e => melt_none (I.freeC x c e),fun p hp => ?_,fun b u e => ?_,I.len⟩
  . have hb:b ≠ a:=fun z => by subst z; exact h0 _ _ e
    rw [melt_ne hb]
    exact I.base.frzs b o u e
  . obtain ⟨more,q⟩:=I.base.tbls b ps e
    exact ⟨more,melt_old (fun _ _ z => nomatch z) q⟩
  . obtain ⟨e,n,r⟩:=I.pin p hp
    exact ⟨e,melt_none n,r⟩
  . have st:∀ {v:HO},ObjOk X.prog X.w H s.heap b v -> ObjOk X.prog X.w (L2.melt a H) s.heap b v:=fun {v} x =>
      x.stay (fun _ _ _ q => q) (fun c q => melt_old (fun _ _ z => nomatch z) q) fun c xs q => melt_old (fun _ _ z => nomatch z) q
    by_cases hb:b = a
    . subst hb
      cases q:H b with
      | none => rw [melt_none q] at e; cases e
      | some z =>
        have hz:=I.hok b z q
        by_cases hf:∃ o v,z = .frz o v
        . obtain ⟨o,v,rfl⟩:=hf
          rw [melt_at q] at e
          cases e
          exact st hz.2
        . rw [melt_old (fun o v w => hf ⟨o,v,w⟩) q] at e
          cases e
          exact st hz
    . rw [melt_ne hb] at e
      exact st (I.hok b u e)
end
section
variable {X:Cx} {tg:Expr}
noncomputable def Dm (a:Addr) (D:Ends):Ends:=⟨fun σ H => D.nx σ (melt a H),fun v H => D.rt v (melt a H),fun σ H => D.bk σ (melt a H),fun σ H => D.ct σ (melt a H)⟩
noncomputable def NoFrz (H:Hp) (a:Addr):Prop:=∀ o u,H a ≠ some (.frz o u)
variable {scope:Scope} {tn names:List Str} {is:List Nat} {elt iter:Expr} {ifs:List Expr} {pos:Pos} {tl te:TE} {tc:Option TT} {g:TG}
end
end L2
namespace L2
open PySem PySem.Spec PyProof.Rows
section
variable {X:Cx} {pins:List (Addr×Obj)} {σ:St} {H:Hp} {s:Shared} {tg:Expr}
theorem Inv.dr (I:Inv X pins σ H s) (d:Drawn):Inv X pins σ H { s with drawn:=d }:=⟨I.ok,I.os,I.bare,I.base,I.loc,I.cell,I.free,I.freeC,I.pin,I.hok,I.len⟩
noncomputable def Ite (K:PySem.W.Frag) (a:Addr):It :=
  ⟨fun i H => ∃ xs x,SqL K H a xs /\ xs[i]? = some x,fun i H v H' => ∃ T x,v = .ref T /\ H T = none /\ H' = upd H T (.tup [.int i,x]) /\ ∀ xs,SqL K H a xs -> xs[i]? = some x,fun i H => ∃ xs,SqL K H a xs /\ xs.length <= i⟩
noncomputable def iEnum (K:PySem.W.Frag) (tl:TA):TI:=fun σ H R => tl σ H fun vs H1 => ∃ a,vs = [.ref a] /\ (∃ xs,SqL K H1 a xs) /\ R (Ite K a) H1
noncomputable def SetS (w:World) (a:Addr) (xs:List Str):HO:=.ext fun h => TxSet w h a xs
theorem vals_strs:∀ {xs:List Str} {us:List Value},Vals (xs.map V.str) us -> StrsAre us xs
  | [],_,.nil => .nil
  | x :: xs,_,.cons r t => by
    obtain ⟨tk,rfl⟩:=r
    exact .cons x tk (vals_strs t)
noncomputable def rSetS (w:World):List V -> Hp -> VK -> Prop:=fun vs H Q => ∃ (p:Addr) (xs:List Str),vs = [.ref p] /\ H p = some (.lst (xs.map V.str)) /\ xs.length <= 4000 /\ ∀ (l:Addr) (ys:List Str),H l = none -> ys.Nodup -> (∀ z,z ∈ ys ↔ z ∈ xs) -> Q (.ref l) (upd H l (SetS w l ys))
theorem call_setS (hc:X.calm = true):CallR X (.type "set") (rSetS X.w):=by
  intro pins s σ H vs us Q I r h
  obtain ⟨p,xs,rfl,hp,hl,q⟩:=h
  obtain ⟨u,rfl,ru⟩:=r.one
  cases ru
  obtain ⟨z,its,n,rv,hlen,e⟩:=I.lstM hp
  have hst:=vals_strs rv
  refine set_texts (items:=its.toArray) (xs:=xs) (I.ok.hd hc) ⟨_,e,rfl,n,rfl⟩ (fun i v hv => ?_) (by rw [List.size_toArray,← hlen,List.length_map]) (by unfold scanBound; omega) fun h' tk ys ht hm kp => ?_
  . have hv:its[i]? = some v:=by simpa using hv
    have hi:i < xs.length:=by
      have:=(List.getElem?_eq_some_iff.mp hv).1
      rw [← hlen,List.length_map] at this
      exact this
    obtain ⟨u,e1,r1⟩:=rv.get (i:=i) (x:=.str xs[i]) (by simp [hi])
    rw [hv] at e1
    cases e1
    obtain ⟨t,rfl⟩:=r1
    exact ⟨t,by simp [List.getD,hi]⟩
  . have hnd:ys.Nodup:=by obtain ⟨_,_,_,_,_,_,nd,_⟩:=ht; exact nd
    have hex:∃ o,h'.get? s.heap.objs.size = some o:=by obtain ⟨es,ep,t,g,_⟩:=ht; exact ⟨_,g⟩
    refine ⟨.ref s.heap.objs.size,_,I.laid (o:=SetS X.w s.heap.objs.size ys) (fun b o e => kp b o (Heap.lt_size e) e) (Nat.le_refl _) ⟨ht,hex,fun h1 h2 x k => x.at k⟩,rfl,q _ ys (I.hok.fresh (Nat.le_refl _)) hnd hm⟩
theorem Paired.at {α β:Type} {F:α -> β -> Prop}:∀ {xs:List α} {ys:List β} {i:Nat} {x:α},Paired F xs ys -> xs[i]? = some x -> ∃ y,ys[i]? = some y /\ F x y
  | _,_,_,_,.nil,e => by simp at e
  | _,_,0,_,.cons r _,e => by simp at e; subst e; exact ⟨_,rfl,r⟩
  | _,_,i + 1,x,.cons _ t,e => by
    obtain ⟨y,h1,h2⟩:=Paired.at (i:=i) (x:=x) t (by simpa using e)
    exact ⟨y,by simpa using h1,h2⟩
end
end L2
namespace L2
open PySem PySem.Spec PyProof.Rows
section
variable {X:Cx}
noncomputable def rJoin:V -> List V -> Hp -> VK -> Prop:=fun x vs H Q => ∃ (z:Str) (l:Addr) (ys:List Str),x = .str z /\ vs = [.ref l] /\ H l = some (.lst (ys.map V.str)) /\ (ys.map (·.length)).sum + ys.length * z.length <= 16777216 /\ Q (.str (Str.join z ys)) H
theorem mt_join:MtR X "str.join" rJoin:=by
  intro pins s σ H x vs v us Q I rx rv h
  obtain ⟨z,l,ys,rfl,rfl,hl,hs,q⟩:=h
  obtain ⟨t,rfl⟩:=rx
  obtain ⟨u,rfl,ru⟩:=rv.one
  cases ru
  obtain ⟨_,its,n,r,_,e⟩:=I.lstM hl
  refine join_list ⟨_,e,rfl,n,rfl⟩ (by simpa using vals_strs r) hs fun t' k => ?_
  have e1:Txt.join z ys = Str.join z ys:=StrLaws.glued_eq_join z ys
  rw [e1]
  exact ⟨.str _,H,I.tok _,⟨_,rfl⟩,q⟩
noncomputable def rSlS:V -> Option Int -> Option Int -> Hp -> VK -> Prop:=fun x lo hi H Q => ∃ z:Str,x = .str z /\ z.length <= sizeLine /\ Q (.str (Txt.slice z lo hi)) H
theorem part_of {v:Value} {lo:Option Int} (h:IsPart v lo):∃ l:Option (Int×Tok),l.map (·.1) = lo /\ v = partValue l:=by
  cases h with
  | none => exact ⟨none,rfl,rfl⟩
  | int i t => exact ⟨some (i,t),rfl,rfl⟩
theorem sl_str:SlR X rSlS:=by
  intro pins s σ H x v vl vu lo hi sl Q I rx hs pl pu h
  obtain ⟨z,rfl,hz,q⟩:=h
  obtain ⟨t,rfl⟩:=rx
  obtain ⟨l,e1,rfl⟩:=part_of pl
  obtain ⟨u,e2,rfl⟩:=part_of pu
  subst e1 e2
  refine ⟨"str",_,F.slot_str_getitem.lookup,typeIs_str _ _ _,wpAny_getItem_str_slice (l:=l) (u:=u) (st:=none) ?_ rfl (post_val_or_str ?_)⟩
  . obtain ⟨o,a,b,c⟩:=hs
    exact ⟨o,a,b,c⟩
  . exact ⟨Nat.le_trans (Txt.slice_le z _ _) hz,fun t' k => ⟨.str _,H,I.tok _,⟨_,rfl⟩,q⟩⟩
end
end L2
namespace L2
section
variable {α:Type} [DecidableEq α]
noncomputable abbrev RunD (α:Type):=α×α×Rat
noncomputable abbrev EntD (α:Type):=Rat×Option (Nat×α)
noncomputable abbrev AL (α β:Type):=List (α×β)
noncomputable def aget {β:Type} (l:AL α β) (k:α):Option β:=(l.find? fun kv => decide (kv.1 = k)).map (·.2)
noncomputable def aput {β:Type} (l:AL α β) (k:α) (v:β):AL α β:=if (l.any fun kv => decide (kv.1 = k)) then l.map (fun kv => if kv.1 = k then (kv.1,v) else kv) else l ++ [(k,v)]
noncomputable def adrop {β:Type} (l:AL α β) (k:α):AL α β:=l.filter fun kv => decide (kv.1 ≠ k)
theorem aget_mem {β:Type} {l:AL α β} {k:α} {v:β} (h:aget l k = some v):(k,v) ∈ l:=by
  unfold aget at h
  rw [Option.map_eq_some_iff] at h
  obtain ⟨kv,h1,h2⟩:=h
  have h3:=List.find?_some h1
  have h4:=List.mem_of_find?_eq_some h1
  simp at h3
  obtain ⟨a,b⟩:=kv
  simp at h2 h3
  subst h2 h3
  exact h4
theorem aget_none {β:Type} {l:AL α β} {k:α} (h:aget l k = none):∀ v,(k,v) ∉ l:=by
  intro v hm
  unfold aget at h
  rw [Option.map_eq_none_iff,List.find?_eq_none] at h
  have:=h _ hm
  simp at this
theorem aget_of {β:Type} {l:AL α β} {k:α} {v:β} (nd:(l.map (·.1)).Nodup) (h:(k,v) ∈ l):aget l k = some v:=by
  cases e:aget l k with
  | none => exact absurd h (aget_none e v)
  | some u =>
    have h2:=aget_mem e
    induction l with
    | nil => cases h
    | cons x r ih =>
      rw [List.map_cons,List.nodup_cons] at nd
      rcases List.mem_cons.mp h with rfl | h'
      . rcases List.mem_cons.mp h2 with h3 | h3
        . cases h3; rfl
        . exact absurd (List.mem_map.mpr ⟨_,h3,rfl⟩) nd.1
      . rcases List.mem_cons.mp h2 with h3 | h3
        . subst h3
          exact absurd (List.mem_map.mpr ⟨_,h',rfl⟩) nd.1
        . have e':aget r k = some u:=by
            unfold aget at e ⊢
            rw [List.find?_cons] at e
            have:(decide (x.1 = k)) = false:=by
              apply decide_eq_false
              intro z
              subst z
              exact nd.1 (List.mem_map.mpr ⟨_,h',rfl⟩)
            rw [this] at e
            exact e
          exact ih nd.2 h' e' h3
theorem mem_aput {β:Type} {l:AL α β} {k:α} {v:β} {x:α} {y:β} (h:(x,y) ∈ aput l k v):(x = k /\ y = v) ∨ (x ≠ k /\ (x,y) ∈ l):=by
  unfold aput at h
  split at h
  . rw [List.mem_map] at h
    obtain ⟨kv,h1,h2⟩:=h
    split at h2
    . rename_i e
      cases h2
      exact .inl ⟨e,rfl⟩
    . rename_i e
      subst h2
      exact .inr ⟨e,h1⟩
  . rename_i e
    rcases List.mem_append.mp h with h1 | h1
    . refine .inr ⟨?_,h1⟩
      rintro rfl
      apply e
      rw [List.any_eq_true]
      exact ⟨_,h1,by simp⟩
    . rw [List.mem_singleton] at h1
      cases h1
      exact .inl ⟨rfl,rfl⟩
theorem aput_mem {β:Type} {l:AL α β} {k:α} {v:β}:(k,v) ∈ aput l k v:=by
  unfold aput
  split
  . rename_i e
    rw [List.any_eq_true] at e
    obtain ⟨kv,h1,h2⟩:=e
    rw [List.mem_map]
    refine ⟨kv,h1,?_⟩
    have:=of_decide_eq_true h2
    rw [if_pos this,this]
  . exact List.mem_append_right _ (List.mem_singleton.mpr rfl)
theorem aput_old {β:Type} {l:AL α β} {k:α} {v:β} {x:α} {y:β} (hx:x ≠ k) (h:(x,y) ∈ l):(x,y) ∈ aput l k v:=by
  unfold aput
  split
  . rw [List.mem_map]
    exact ⟨_,h,by rw [if_neg hx]⟩
  . exact List.mem_append_left _ h
theorem aput_nd {β:Type} {l:AL α β} {k:α} {v:β} (nd:(l.map (·.1)).Nodup):((aput l k v).map (·.1)).Nodup:=by
  unfold aput
  split
  . rw [List.map_map]
    have:((fun x => x.1) ∘ fun (kv:α×β) => if kv.1 = k then (kv.1,v) else kv) = fun kv => kv.1:=by
      funext kv
      simp only [Function.comp]
      split <;> rfl
    rw [this]
    exact nd
  . rename_i e
    rw [List.map_append,List.nodup_append]
    refine ⟨nd,by simp,?_⟩
    intro a ha b hb
    simp at hb
    subst hb
    rintro rfl
    apply e
    rw [List.mem_map] at ha
    obtain ⟨kv,h1,h2⟩:=ha
    rw [List.any_eq_true]
    exact ⟨kv,h1,by simp [h2]⟩
theorem aput_keys {β:Type} {l:AL α β} {k:α} {v:β} {x:α} (h:x ∈ (aput l k v).map (·.1)):x = k ∨ x ∈ l.map (·.1):=by
  rw [List.mem_map] at h
  obtain ⟨⟨a,b⟩,h1,rfl⟩:=h
  rcases mem_aput h1 with ⟨e,_⟩ | ⟨_,e⟩
  . exact .inl e
  . exact .inr (List.mem_map.mpr ⟨_,e,rfl⟩)
theorem aget_put {β:Type} (l:AL α β) (k j:α) (v:β):aget (aput l k v) j = if j = k then some v else aget l j:=by
  by_cases e:j = k
  . subst e
    rw [if_pos rfl]
    unfold aget aput
    split
    . rename_i h
      induction l with
      | nil => simp at h
      | cons x r ih =>
        rw [List.map_cons,List.find?_cons]
        by_cases hx:x.1 = j
        . simp [hx]
        . rw [if_neg hx]
          simp only [hx,decide_false]
          apply ih
          rw [List.any_cons] at h
          simpa [hx] using h
    . rename_i h
      induction l with
      | nil => simp
      | cons x r ih =>
        rw [List.any_cons] at h
        have hx:¬ x.1 = j:=fun z => h (by simp [z])
        rw [List.cons_append,List.find?_cons]
        simp only [hx,decide_false]
        exact ih (by simpa [hx] using h)
  . rw [if_neg e]
    unfold aget aput
    split
    . rename_i h
      clear h
      induction l with
      | nil => rfl
      | cons x r ih =>
        rw [List.map_cons,List.find?_cons,List.find?_cons]
        by_cases hx:x.1 = k
        . rw [if_pos hx]
          have:¬ x.1 = j:=fun z => e (z.symm.trans hx)
          simp only [this,decide_false]
          exact ih
        . rw [if_neg hx]
          by_cases hj:x.1 = j
          . simp [hj]
          . simp only [hj,decide_false]
            exact ih
    . rename_i h
      rw [List.find?_append]
      have:List.find? (fun kv => decide (kv.1 = j)) [(k,v)] = none:=by
        simp [Ne.symm e]
      rw [this,Option.or_none]
noncomputable def Jn (r:RunD α) (q p:α):Prop:=(r.1 = q /\ r.2.1 = p) ∨ (r.2.1 = q /\ r.1 = p)
theorem Jn.symm {r:RunD α} {q p:α} (h:Jn r q p):Jn r p q:=h.elim (fun ⟨a,b⟩ => .inr ⟨b,a⟩) fun ⟨a,b⟩ => .inl ⟨b,a⟩
noncomputable def NotOut (tk:Nat -> Option Rat) (k:Nat) (t:Rat):Prop:=∀ u,tk k = some u -> t <= u
theorem NotOut.le {tk:Nat -> Option Rat} {k:Nat} {s t:Rat} (h:NotOut tk k t) (l:s <= t):NotOut tk k s:=fun u e => Rat.le_trans l (h u e)
variable (net:List (RunD α)) (push:α -> Option Rat) (tk:Nat -> Option Rat)
inductive Arr:α -> Rat -> Prop
  | push {p t}:push p = some t -> Arr p t
  | run {q s p k r}:Arr q s -> net[k]? = some r -> Jn r q p -> NotOut tk k (s + r.2.2) -> Arr p (s + r.2.2)
structure Falls (m:α -> Option Rat):Prop where
  arr:∀ p t,m p = some t -> Arr net push tk p t
  le:∀ p t,Arr net push tk p t -> ∃ u,m p = some u /\ u <= t
variable {net push tk}
theorem Falls.uniq {m m':α -> Option Rat} (h:Falls net push tk m) (h':Falls net push tk m'):m = m':=by
  have key:∀ {m m':α -> Option Rat},Falls net push tk m -> Falls net push tk m' -> ∀ p t,m p = some t -> ∃ u,m' p = some u /\ u <= t:=fun h h' p t e => h'.le p t (h.arr p t e)
  funext p
  cases e:m p with
  | none =>
    cases e':m' p with
    | none => rfl
    | some u =>
      obtain ⟨w,e2,_⟩:=key h' h p u e'
      rw [e] at e2
      cases e2
  | some t =>
    obtain ⟨u,e1,l1⟩:=key h h' p t e
    obtain ⟨w,e2,l2⟩:=key h' h p u e1
    rw [e] at e2
    cases e2
    rw [e1]
    exact congrArg some (Rat.le_antisymm l2 l1)
noncomputable def Sup (net:List (RunD α)) (push:α -> Option Rat) (tk:Nat -> Option Rat) (F:AL α (EntD α)) (p:α):EntD α -> Prop
  | (t,none) => push p = some t
  | (t,some (k,q)) => ∃ r e,net[k]? = some r /\ Jn r q p /\ (q,e) ∈ F /\ t = e.1 + r.2.2 /\ NotOut tk k t
theorem Sup.mono {F F':AL α (EntD α)} {p:α} {e:EntD α} (h:Sup net push tk F p e) (s:∀ x ∈ F,x ∈ F'):Sup net push tk F' p e:=by
  obtain ⟨t,o⟩:=e
  cases o with
  | none => exact h
  | some kq =>
    obtain ⟨r,e,a,b,c,d⟩:=h
    exact ⟨r,e,a,b,s _ c,d⟩
noncomputable def Has (W F:AL α (EntD α)) (p:α) (t:Rat):Prop:=∃ e,((p,e) ∈ W ∨ (p,e) ∈ F) /\ e.1 <= t
structure FInv (net:List (RunD α)) (push:α -> Option Rat) (tk:Nat -> Option Rat) (C:α -> Nat -> α -> Prop) (W F:AL α (EntD α)):Prop where
  ndW:(W.map (·.1)).Nodup
  ndF:(F.map (·.1)).Nodup
  dis:∀ p,p ∈ W.map (·.1) -> p ∉ F.map (·.1)
  sup:∀ p e,(p,e) ∈ W -> Sup net push tk F p e
  ord:∀ i p e,F[i]? = some (p,e) -> Sup net push tk (F.take i) p e
  mono:∀ f ∈ F,∀ w ∈ W,f.2.1 <= w.2.1
  psh:∀ p t,push p = some t -> Has W F p t
  clo:∀ q e,(q,e) ∈ F -> ∀ k r p,net[k]? = some r -> Jn r q p -> C q k p -> NotOut tk k (e.1 + r.2.2) -> Has W F p (e.1 + r.2.2)
theorem FInv.start {W:AL α (EntD α)} {C:α -> Nat -> α -> Prop} (nd:(W.map (·.1)).Nodup) (h:∀ p e,(p,e) ∈ W -> e.2 = none /\ push p = some e.1) (h2:∀ p t,push p = some t -> (p,(t,none)) ∈ W):FInv net push tk C W []:=by
  refine ⟨nd,by simp,fun _ _ => by simp,fun p e he => ?_,fun i p e he => by simp at he,fun f hf => by simp at hf,fun p t e => ⟨_,.inl (h2 p t e),Rat.le_refl⟩,fun q e he => by simp at he⟩
  obtain ⟨t,o⟩:=e
  obtain ⟨rfl,z⟩:=h p _ he
  exact z
theorem FInv.turn {W F:AL α (EntD α)} {p x:α} {e:EntD α} {k:Nat} {r:RunD α} {C C':α -> Nat -> α -> Prop} (I:FInv net push tk C W F) (hp:(p,e) ∈ F) (hr:net[k]? = some r) (hj:Jn r p x) (hle:∀ w ∈ F,w.2.1 <= e.1) (h0:0 < r.2.2)
    (hC:∀ q j y,C' q j y -> C q j y ∨ (q = p /\ j = k /\ y = x)) {W':AL α (EntD α)}
    (hW:(W' = W /\ (x ∈ F.map (·.1) ∨ ¬ NotOut tk k (e.1 + r.2.2) ∨ ∃ u,(x,u) ∈ W /\ u.1 <= e.1 + r.2.2)) ∨
      (x ∉ F.map (·.1) /\ NotOut tk k (e.1 + r.2.2) /\ (∀ u,(x,u) ∈ W -> e.1 + r.2.2 <= u.1) /\ W' = aput W x (e.1 + r.2.2,some (k,p)))):FInv net push tk C' W' F:=by
  rcases hW with ⟨rfl,h⟩ | ⟨hxF,hno,hu,rfl⟩
  . refine ⟨I.ndW,I.ndF,I.dis,I.sup,I.ord,I.mono,I.psh,fun q u hq j r' y h1 h2 h3 h4 => ?_⟩
    rcases hC q j y h3 with h3 | ⟨rfl,rfl,rfl⟩
    . exact I.clo q u hq j r' y h1 h2 h3 h4
    . rw [hr] at h1
      cases h1
      have:u = e:=Option.some.inj ((aget_of I.ndF hq).symm.trans (aget_of I.ndF hp))
      subst this
      rcases h with h | h | ⟨w,h5,h6⟩
      . rw [List.mem_map] at h
        obtain ⟨⟨a,b⟩,h5,rfl⟩:=h
        refine ⟨b,.inr h5,?_⟩
        have:=hle _ h5
        simp only at this
        grind
      . exact absurd h4 h
      . exact ⟨w,.inl h5,h6⟩
  . have has:∀ {y t},Has W F y t -> Has (aput W x (e.1 + r.2.2,some (k,p))) F y t:=fun {y t} ⟨u,h1,h2⟩ => by
      rcases h1 with h1 | h1
      . by_cases hy:y = x
        . subst hy
          exact ⟨_,.inl aput_mem,Rat.le_trans (hu u h1) h2⟩
        . exact ⟨u,.inl (aput_old hy h1),h2⟩
      . exact ⟨u,.inr h1,h2⟩
    refine ⟨aput_nd I.ndW,I.ndF,fun y hy => ?_,fun y u hy => ?_,I.ord,fun f hf w hw => ?_,fun y t hy => has (I.psh y t hy),fun q u hq j r' y h1 h2 h3 h4 => ?_⟩
    . rcases aput_keys hy with rfl | hy
      . exact hxF
      . exact I.dis y hy
    . rcases mem_aput hy with ⟨rfl,rfl⟩ | ⟨_,hy⟩
      . exact ⟨r,e,hr,hj,hp,rfl,hno⟩
      . exact I.sup y u hy
    . obtain ⟨y,u⟩:=w
      rcases mem_aput hw with ⟨rfl,rfl⟩ | ⟨_,hy⟩
      . have:=hle f hf
        show f.2.1 <= e.1 + r.2.2
        grind
      . exact I.mono f hf _ hy
    . rcases hC q j y h3 with h3 | ⟨rfl,rfl,rfl⟩
      . exact has (I.clo q u hq j r' y h1 h2 h3 h4)
      . rw [hr] at h1
        cases h1
        have:u = e:=Option.some.inj ((aget_of I.ndF hq).symm.trans (aget_of I.ndF hp))
        subst this
        exact ⟨_,.inl aput_mem,Rat.le_refl⟩
structure FOrd (net:List (RunD α)) (push:α -> Option Rat) (tk:Nat -> Option Rat) (F:AL α (EntD α)):Prop where
  nd:(F.map (·.1)).Nodup
  ord:∀ i p e,F[i]? = some (p,e) -> Sup net push tk (F.take i) p e
  psh:∀ p t,push p = some t -> ∃ e,(p,e) ∈ F /\ e.1 <= t
  clo:∀ q e,(q,e) ∈ F -> ∀ k r p,net[k]? = some r -> Jn r q p -> NotOut tk k (e.1 + r.2.2) -> ∃ u,(p,u) ∈ F /\ u.1 <= e.1 + r.2.2
theorem FInv.done {F:AL α (EntD α)} (I:FInv net push tk (fun _ _ _ => True) [] F):FOrd net push tk F:=by
  refine ⟨I.ndF,I.ord,fun p t h => ?_,fun q e hq k r p h1 h2 h3 => ?_⟩
  . obtain ⟨e,h1,h2⟩:=I.psh p t h
    exact ⟨e,h1.resolve_left (by simp),h2⟩
  . obtain ⟨u,h4,h5⟩:=I.clo q e hq k r p h1 h2 trivial h3
    exact ⟨u,h4.resolve_left (by simp),h5⟩
noncomputable def momOf (F:AL α (EntD α)) (p:α):Option Rat:=(aget F p).map (·.1)
theorem FOrd.arr {F:AL α (EntD α)} (O:FOrd net push tk F):∀ (i:Nat) (p:α) (e:EntD α),F[i]? = some (p,e) -> Arr net push tk p e.1:=by
  intro i
  induction i using Nat.strongRecOn with
  | ind i ih =>
    intro p e hi
    have h:=O.ord i p e hi
    obtain ⟨t,o⟩:=e
    cases o with
    | none => exact .push h
    | some kq =>
      obtain ⟨k,q⟩:=kq
      obtain ⟨r,e,h1,h2,h3,h4,h5⟩:=h
      obtain ⟨j,hj⟩:=List.mem_iff_getElem?.mp h3
      rw [List.getElem?_take] at hj
      split at hj
      . rename_i hlt
        subst h4
        exact .run (ih j hlt q e hj) h1 h2 h5
      . cases hj
theorem FOrd.falls {F:AL α (EntD α)} (O:FOrd net push tk F):Falls net push tk (momOf F):=by
  refine ⟨fun p t h => ?_,fun p t h => ?_⟩
  . unfold momOf at h
    rw [Option.map_eq_some_iff] at h
    obtain ⟨e,h1,rfl⟩:=h
    obtain ⟨i,hi⟩:=List.mem_iff_getElem?.mp (aget_mem h1)
    exact O.arr i p e hi
  . induction h with
    | push h =>
      obtain ⟨e,h1,h2⟩:=O.psh _ _ h
      exact ⟨e.1,by unfold momOf; rw [aget_of O.nd h1]; rfl,h2⟩
    | run h1 h2 h3 h4 ih =>
      obtain ⟨u,h5,h6⟩:=ih
      unfold momOf at h5
      rw [Option.map_eq_some_iff] at h5
      obtain ⟨e,h7,rfl⟩:=h5
      rename_i q s p k r
      have hle:e.1 + r.2.2 <= s + r.2.2:=by grind
      obtain ⟨u,h8,h9⟩:=O.clo q e (aget_mem h7) k r p h2 h3 (h4.le hle)
      exact ⟨u.1,by unfold momOf; rw [aget_of O.nd h8]; rfl,Rat.le_trans h9 hle⟩
end
end L2
namespace L2
section
variable {α:Type} [DecidableEq α] {net:List (RunD α)} {push:α -> Option Rat} {tk:Nat -> Option Rat} {F:AL α (EntD α)}
noncomputable def Sat (f:α -> Option Rat) (p:α) (t:Rat):Prop:=∃ u,f p = some u /\ u <= t
noncomputable def Dec (f g:α -> Option Rat):Prop:=∀ p t,f p = some t -> Sat g p t
theorem Dec.refl (f:α -> Option Rat):Dec f f:=fun _ t h => ⟨t,h,Rat.le_refl⟩
theorem Dec.sat {f g:α -> Option Rat} (d:Dec f g) {p:α} {t:Rat} (h:Sat f p t):Sat g p t:=by
  obtain ⟨u,h1,h2⟩:=h
  obtain ⟨w,h3,h4⟩:=d p u h1
  exact ⟨w,h3,Rat.le_trans h4 h2⟩
theorem Dec.trans {f g h:α -> Option Rat} (a:Dec f g) (b:Dec g h):Dec f h:=fun p t e => b.sat (a p t e)
noncomputable def Snd (net:List (RunD α)) (push:α -> Option Rat) (tk:Nat -> Option Rat) (f:α -> Option Rat):Prop:=∀ p t,f p = some t -> Arr net push tk p t
noncomputable def Rlx (tk:Nat -> Option Rat) (k:Nat) (x:Rat) (a b:α) (f g:α -> Option Rat):Prop :=
  (f a = none /\ g = f) ∨ (∃ s,f a = some s /\ ¬ NotOut tk k (s + x) /\ g = f) ∨
    ∃ s,f a = some s /\ NotOut tk k (s + x) /\ ((f b = none /\ g = fun p => if p = b then some (s + x) else f p) ∨ ∃ t,f b = some t /\ g = fun p => if p = b then some (if t < s + x then t else s + x) else f p)
theorem Rlx.dec {k:Nat} {x:Rat} {a b:α} {f g:α -> Option Rat} (h:Rlx tk k x a b f g):Dec f g:=by
  rcases h with ⟨_,rfl⟩ | ⟨_,_,_,rfl⟩ | ⟨s,h1,h2,⟨h3,rfl⟩ | ⟨t,h3,rfl⟩⟩
  . exact Dec.refl _
  . exact Dec.refl _
  . intro p t h
    have:p ≠ b:=fun z => by subst z; rw [h3] at h; cases h
    exact ⟨t,by simp only [if_neg this]; exact h,Rat.le_refl⟩
  . intro p u h
    by_cases hp:p = b
    . subst hp
      rw [h3] at h
      cases h
      refine ⟨_,by simp only [if_pos rfl]; rfl,?_⟩
      split <;> grind
    . exact ⟨u,by simp only [if_neg hp]; exact h,Rat.le_refl⟩
theorem Rlx.snd {k:Nat} {a b:α} {r:RunD α} {f g:α -> Option Rat} (h:Rlx tk k r.2.2 a b f g) (hr:net[k]? = some r) (hj:Jn r a b) (hs:Snd net push tk f):Snd net push tk g:=by
  rcases h with ⟨_,rfl⟩ | ⟨_,_,_,rfl⟩ | ⟨s,h1,h2,⟨h3,rfl⟩ | ⟨t,h3,rfl⟩⟩
  . exact hs
  . exact hs
  . intro p u h
    by_cases hp:p = b
    . subst hp
      simp only [if_true] at h
      cases h
      exact .run (hs _ _ h1) hr hj h2
    . simp only [if_neg hp] at h
      exact hs p u h
  . intro p u h
    by_cases hp:p = b
    . subst hp
      simp only [if_true] at h
      cases h
      split
      . exact hs _ _ h3
      . exact .run (hs _ _ h1) hr hj h2
    . simp only [if_neg hp] at h
      exact hs p u h
theorem Rlx.sat {k:Nat} {x:Rat} {a b:α} {f g:α -> Option Rat} (h:Rlx tk k x a b f g) {s:Rat} (hs:Sat f a s) (hn:NotOut tk k (s + x)):Sat g b (s + x):=by
  obtain ⟨u,h1,h2⟩:=hs
  have hle:u + x <= s + x:=by grind
  rcases h with ⟨e,_⟩ | ⟨s',e,h3,_⟩ | ⟨s',e,h3,⟨h4,rfl⟩ | ⟨t,h4,rfl⟩⟩
  . rw [h1] at e; cases e
  . rw [h1] at e; cases e
    exact absurd (hn.le hle) h3
  . rw [h1] at e; cases e
    exact ⟨u + x,by simp,hle⟩
  . rw [h1] at e; cases e
    refine ⟨_,by simp only [if_pos rfl]; rfl,?_⟩
    split <;> grind
structure Rnd (net:List (RunD α)) (push:α -> Option Rat) (tk:Nat -> Option Rat) (F:AL α (EntD α)) (i n:Nat) (f:α -> Option Rat):Prop where
  snd:Snd net push tk f
  psh:∀ p t,push p = some t -> Sat f p t
  past:∀ (j:Nat) p e,F[j]? = some (p,e) -> j < i -> Sat f p e.1
  now:∀ p e k q,F[i]? = some (p,e) -> e.2 = some (k,q) -> k < n -> Sat f p e.1
theorem Rnd.start:Rnd net push tk F 0 0 push:=⟨fun _ _ h => .push h,fun _ t h => ⟨t,h,Rat.le_refl⟩,fun _ _ _ _ h => absurd h (Nat.not_lt_zero _),fun _ _ _ _ _ _ h => absurd h (Nat.not_lt_zero _)⟩
theorem Rnd.run {i n:Nat} {f g g':α -> Option Rat} {r:RunD α} (O:FOrd net push tk F) (R:Rnd net push tk F i n f) (hr:net[n]? = some r) (h1:Rlx tk n r.2.2 r.1 r.2.1 f g) (h2:Rlx tk n r.2.2 r.2.1 r.1 g g'):Rnd net push tk F i (n + 1) g':=by
  have d:Dec f g':=h1.dec.trans h2.dec
  refine ⟨h2.snd hr (.inr ⟨rfl,rfl⟩) (h1.snd hr (.inl ⟨rfl,rfl⟩) R.snd),fun p t h => d.sat (R.psh p t h),fun j p e h l => d.sat (R.past j p e h l),fun p e k q hi he hk => ?_⟩
  by_cases hkn:k < n
  . exact d.sat (R.now p e k q hi he hkn)
  . have:k = n:=by omega
    subst this
    have s:=O.ord i p e hi
    obtain ⟨t,o⟩:=e
    simp only at he
    subst he
    obtain ⟨r',e',a1,a2,a3,a4,a5⟩:=s
    rw [hr] at a1
    cases a1
    obtain ⟨j,hj⟩:=List.mem_iff_getElem?.mp a3
    rw [List.getElem?_take] at hj
    split at hj
    . rename_i hlt
      have sq:=R.past j q e' hj hlt
      subst a4
      rcases a2 with ⟨b1,b2⟩ | ⟨b1,b2⟩
      . subst b1 b2
        exact h2.dec.sat (h1.sat sq a5)
      . subst b1 b2
        exact h2.sat (h1.dec.sat sq) a5
    . cases hj
theorem Rnd.next {i:Nat} {f:α -> Option Rat} (O:FOrd net push tk F) (R:Rnd net push tk F i net.length f):Rnd net push tk F (i + 1) 0 f:=by
  refine ⟨R.snd,R.psh,fun j p e h l => ?_,fun _ _ _ _ _ _ h => absurd h (Nat.not_lt_zero _)⟩
  by_cases hj:j < i
  . exact R.past j p e h hj
  . have:j = i:=by omega
    subst this
    have s:=O.ord j p e h
    obtain ⟨t,o⟩:=e
    cases o with
    | none => exact R.psh p t s
    | some kq =>
      obtain ⟨k,q⟩:=kq
      obtain ⟨r',e',a1,_⟩:=id s
      exact R.now p _ k q h rfl (by
        have:=(List.getElem?_eq_some_iff.mp a1).1
        exact this)
theorem Rnd.done {i:Nat} {f:α -> Option Rat} (O:FOrd net push tk F) (R:Rnd net push tk F i 0 f) (hi:F.length <= i):f = momOf F:=by
  refine Falls.uniq (net:=net) (push:=push) (tk:=tk) ⟨R.snd,fun p t h => ?_⟩ O.falls
  obtain ⟨u,h1,h2⟩:=O.falls.le p t h
  unfold momOf at h1
  rw [Option.map_eq_some_iff] at h1
  obtain ⟨e,h3,rfl⟩:=h1
  obtain ⟨j,hj⟩:=List.mem_iff_getElem?.mp (aget_mem h3)
  have hlt:j < F.length:=(List.getElem?_eq_some_iff.mp hj).1
  obtain ⟨w,h4,h5⟩:=R.past j p e hj (by omega)
  exact ⟨w,h4,Rat.le_trans h5 h2⟩
end
end L2
namespace L2
section
variable {κ:Type} [DecidableEq κ]
noncomputable def lstep (m:AL κ Rat) (x:κ×Rat):AL κ Rat:=match aget m x.1 with
  | none => aput m x.1 x.2
  | some r => if x.2 < r then aput m x.1 x.2 else m
noncomputable def lst (l:List (κ×Rat)):AL κ Rat:=l.foldl lstep []
theorem lstep_mem {m:AL κ Rat} {x:κ×Rat} {k:κ} {q:Rat} (h:(k,q) ∈ lstep m x):(k,q) ∈ m ∨ (k,q) = x:=by
  unfold lstep at h
  split at h
  . rcases mem_aput h with ⟨rfl,rfl⟩ | ⟨_,h⟩
    . exact .inr rfl
    . exact .inl h
  . split at h
    . rcases mem_aput h with ⟨rfl,rfl⟩ | ⟨_,h⟩
      . exact .inr rfl
      . exact .inl h
    . exact .inl h
theorem lst_rev (P:AL κ Rat -> Prop) (l:List (κ×Rat)) (h0:P []) (hs:∀ m x,x ∈ l -> P m -> P (lstep m x)):P (lst l):=by
  unfold lst
  have:∀ (l':List (κ×Rat)) (m:AL κ Rat),(∀ x ∈ l',x ∈ l) -> P m -> P (l'.foldl lstep m):=by
    intro l'
    induction l' with
    | nil => intro m _ h; exact h
    | cons x r ih => intro m hl h; exact ih _ (fun y hy => hl y (List.mem_cons_of_mem _ hy)) (hs m x (hl x List.mem_cons_self) h)
  exact this l [] (fun x h => h) h0
theorem lst_mem {l:List (κ×Rat)} {x:κ×Rat} (h:x ∈ lst l):x ∈ l:=by
  refine lst_rev (fun m => ∀ y ∈ m,y ∈ l) l (by simp) (fun m x hx ih y hy => ?_) x h
  obtain ⟨k,q⟩:=y
  rcases lstep_mem hy with h | h
  . exact ih _ h
  . rw [h]; exact hx
end
end L2
namespace L2
end L2
namespace L2
open PySem PySem.Spec PyProof.Rows
section
variable {X:Cx} {a b:Expr} {ta tb td ty tv:TE} {pos:Pos} {rest:List Expr} {σ:St} {H H':Hp} {Q:VK} {D:Ends} {K:PySem.W.Frag} {w:World} {v x:V}
noncomputable def tOrT (K:PySem.W.Frag) (ta tb:TE):TE:=fun σ H Q => ta σ H fun x H1 => ∃ k,TruV K x H1 k /\ if k = true then Q x H1 else tb σ H1 Q
theorem r_orT (k:ta σ H fun x H1 => ∃ k,TruV K x H1 k /\ if k = true then Q x H1 else tb σ H1 Q):tOrT K ta tb σ H Q:=k
noncomputable def tTru (K:PySem.W.Frag) (ta:TE):TT:=fun σ H R => ta σ H fun x H' => ∃ k,TruV K x H' k /\ R k H'
theorem r_tru {R:Bool -> Hp -> Prop} (k:ta σ H fun x H' => ∃ k,TruV K x H' k /\ R k H'):tTru K ta σ H R:=k
theorem r_dnew (k:∀ p,H p = none -> Q (.ref p) (upd H p (.dK []))):tDNewK σ H Q:=k
noncomputable def dG (x y:V) (H:Hp) (Q:VK):Prop:=∃ a v,x = .ref a /\ DGet H a y (some v) /\ Q v H
theorem r_dget (k:td σ H fun x H1 => ty σ H1 fun y H2 => dG x y H2 Q):tDGet td ty σ H Q:=k
theorem r_dGs {p:Addr} {kvs:List (Key×V)} {s:Str} (h:Rd H p (.dK kvs)) (e:valV kvs (Sum.inr s) = some v) (k:Q v H):dG (.ref p) (.str s) H Q:=⟨p,v,rfl,.inl ⟨kvs,Sum.inr s,h,rfl,e.symm⟩,k⟩
noncomputable def dI (y x:V) (H:Hp) (Q:VK):Prop:=∃ a o,x = .ref a /\ DGet H a y o /\ Q (.bl o.isSome) H
noncomputable def dN (y x:V) (H:Hp) (Q:VK):Prop:=∃ a o,x = .ref a /\ DGet H a y o /\ Q (.bl (!o.isSome)) H
theorem r_din (k:ty σ H fun y H1 => td σ H1 fun x H2 => dI y x H2 Q):tDIn ty td σ H Q:=k
theorem r_dnin (k:ty σ H fun y H1 => td σ H1 fun x H2 => dN y x H2 Q):tDNotIn ty td σ H Q:=k
theorem r_dIs {p:Addr} {kvs:List (Key×V)} {s:Str} (h:Rd H p (.dK kvs)) (k:Q (.bl (valV kvs (Sum.inr s)).isSome) H):dI (.str s) (.ref p) H Q:=⟨p,_,rfl,.inl ⟨kvs,Sum.inr s,h,rfl,rfl⟩,k⟩
theorem r_dNs {p:Addr} {kvs:List (Key×V)} {s:Str} (h:Rd H p (.dK kvs)) (k:Q (.bl (!(valV kvs (Sum.inr s)).isSome)) H):dN (.str s) (.ref p) H Q:=⟨p,_,rfl,.inl ⟨kvs,Sum.inr s,h,rfl,rfl⟩,k⟩
noncomputable def dP (D:Ends) (σ:St) (v x y:V) (H:Hp):Prop:=∃ a H4,x = .ref a /\ DPut H a y v H4 /\ D.nx σ H4
theorem r_dput (k:tv σ H fun v H1 => td σ H1 fun x H2 => ty σ H2 fun y H3 => dP D σ v x y H3):sDPut td ty tv D σ H:=k
theorem r_dPk {p:Addr} {kvs:List (Key×V)} {c:Key} (h:H p = some (.dK kvs)) (hl:kvs.length <= 1000) (k:D.nx σ (upd H p (.dK (putK kvs c v)))):dP D σ v (.ref p) (kV c) H:=⟨p,_,rfl,DPut.k h (small1000 hl),k⟩
theorem r_dPs {p:Addr} {kvs:List (Key×V)} {s:Str} (h:H p = some (.dK kvs)) (hl:kvs.length <= 1000) (k:D.nx σ (upd H p (.dK (putK kvs (Sum.inr s) v)))):dP D σ v (.ref p) (.str s) H:=r_dPk (c:=Sum.inr s) h hl k
noncomputable def dG1 (ty:TE) (σ:St) (Q:VK) (x:V) (H1:Hp):Prop:=∃ a,x = .ref a /\ IsD H1 a /\ ty σ H1 fun y H2 => ∃ o,DGet H2 a y o /\ Q (o.getD .non) H2
theorem r_dget1 (k:td σ H (dG1 ty σ Q)):tDGet1 td ty σ H Q:=k
noncomputable def dG2 (ty tx:TE) (σ:St) (Q:VK) (x:V) (H1:Hp):Prop:=∃ a,x = .ref a /\ IsD H1 a /\ ty σ H1 fun y H2 => tx σ H2 fun z H3 => ∃ o,DGet H3 a y o /\ Q (o.getD z) H3
theorem r_dget2 {tx:TE} (k:td σ H (dG2 ty tx σ Q)):tDGet2 td ty tx σ H Q:=k
noncomputable def dpK (ty:TE) (σ:St) (Q:VK) (x:V) (H1:Hp):Prop:=∃ a,x = .ref a /\ IsD H1 a /\ ty σ H1 fun y H2 => ∃ kvs k v,H2 a = some (.dK kvs) /\ y = kV k /\ valV kvs k = some v /\ Q v (upd H2 a (.dK (dropK kvs k)))
theorem r_dpop1 (k:td σ H (dpK ty σ Q)):tDPop1 td ty σ H Q:=k
theorem IsD.k {p:Addr} {kvs:List (Key×V)} (h:Rd H p (.dK kvs)):IsD H p:=.inl ⟨kvs,h⟩
theorem r_iEnum {tl:TA} {R:It -> Hp -> Prop} (k:tl σ H fun vs H1 => ∃ a,vs = [.ref a] /\ (∃ xs,SqL K H1 a xs) /\ R (Ite K a) H1):iEnum K tl σ H R:=k
theorem r_gtup2 {p:Addr} {x y:V} {t:TGs} {R:St -> Hp -> Prop} (h:H p = some (.tup [x,y])) (k:t [x,y] σ H R):gTup K 2 t (.ref p) σ H R:=⟨p,_,rfl,SqT.of h,rfl,k⟩
theorem r_gtup3 {p:Addr} {x y z:V} {t:TGs} {R:St -> Hp -> Prop} (h:H p = some (.tup [x,y,z])) (k:t [x,y,z] σ H R):gTup K 3 t (.ref p) σ H R:=⟨p,_,rfl,SqT.of h,rfl,k⟩
theorem r_gtup4 {p:Addr} {x y z u:V} {t:TGs} {R:St -> Hp -> Prop} (h:H p = some (.tup [x,y,z,u])) (k:t [x,y,z,u] σ H R):gTup K 4 t (.ref p) σ H R:=⟨p,_,rfl,SqT.of h,rfl,k⟩
theorem r_gnil {R:St -> Hp -> Prop} (k:R σ H):gNil [] σ H R:=⟨rfl,k⟩
theorem r_gcons {t:TG} {u:TGs} {r:List V} {R:St -> Hp -> Prop} (k:t v σ H fun σ' H' => u r σ' H' R):gCons t u (v :: r) σ H R:=⟨v,r,rfl,k⟩
end
noncomputable def TK (H H':Hp):Prop:=∀ p xs,H p = some (.tup xs) -> H' p = some (.tup xs)
theorem TK.refl (H:Hp):TK H H:=fun _ _ h => h
theorem TK.trans {H H1 H2:Hp} (a:TK H H1) (b:TK H1 H2):TK H H2:=fun p xs h => b p xs (a p xs h)
theorem Same.tk {H H':Hp} (s:Same H H'):TK H H':=fun p xs h => s _ _ h
theorem TK.new {H:Hp} {q:Addr} {o:HO} (h:H q = none):TK H (upd H q o):=(Same.new h).tk
theorem TK.lst {H:Hp} {q:Addr} {o:HO} {ys:List V} (h:H q = some (.lst ys)):TK H (upd H q o):=fun p xs e => by rw [upd_ne (ne_of e h (by intro z; cases z))]; exact e
theorem TK.dic {H:Hp} {q:Addr} {o:HO} {ys:List (Key×V)} (h:H q = some (.dK ys)):TK H (upd H q o):=fun p xs e => by rw [upd_ne (ne_of e h (by intro z; cases z))]; exact e
theorem TK.frz {H:Hp} {q:Addr} {o:HO} {ob:Obj} {u:HO} (h:H q = some (.frz ob u)):TK H (upd H q o):=fun p xs e => by rw [upd_ne (ne_of e h (by intro z; cases z))]; exact e
theorem TK.melt {H:Hp} {a:Addr}:TK H (melt a H):=fun p xs e => melt_old (fun _ _ z => nomatch z) e
theorem St3.tk {H H':Hp} {p:Addr} {n:Int} (s:St3 H p n) (k:Kp p H H'):TK H H':=fun q xs e => k _ _ (s.ne e) e
noncomputable def FrQ (H:Hp) (v:V) (q:Rat):Prop:=∃ p,v = .ref p /\ H p = some (.tup [.int q.num,.int q.den])
theorem FrQ.tk {H H':Hp} {v:V} {q:Rat} (h:FrQ H v q) (t:TK H H'):FrQ H' v q:=let ⟨p,e,h⟩:=h; ⟨p,e,t _ _ h⟩
noncomputable def KvQ (H:Hp) (v:V) (x:Key×Rat):Prop:=∃ p u,v = .ref p /\ H p = some (.tup [kV x.1,u]) /\ FrQ H u x.2
theorem KvQ.tk {H H':Hp} {v:V} {x:Key×Rat} (h:KvQ H v x) (t:TK H H'):KvQ H' v x:=let ⟨p,u,e,h,f⟩:=h; ⟨p,u,e,t _ _ h,f.tk t⟩
noncomputable def RunQ (H:Hp) (v:V) (r:Key×Key×Rat):Prop:=∃ p u,v = .ref p /\ H p = some (.tup [kV r.1,kV r.2.1,u]) /\ FrQ H u r.2.2
theorem RunQ.tk {H H':Hp} {v:V} {r:Key×Key×Rat} (h:RunQ H v r) (t:TK H H'):RunQ H' v r:=let ⟨p,u,e,h,f⟩:=h; ⟨p,u,e,t _ _ h,f.tk t⟩
noncomputable def EntQ (H:Hp) (v:V) (e:Rat×Option (Nat×Key)):Prop:=∃ p u,v = .ref p /\ H p = some (.tup [u,(match e.2 with | none => .non | some kq => .int kq.1),(match e.2 with | none => .non | some kq => kV kq.2)]) /\ FrQ H u e.1
theorem EntQ.tk {H H':Hp} {v:V} {e:Rat×Option (Nat×Key)} (h:EntQ H v e) (t:TK H H'):EntQ H' v e:=let ⟨p,u,a,h,f⟩:=h; ⟨p,u,a,t _ _ h,f.tk t⟩
noncomputable def NpQ (H:Hp) (v:V) (x:Nat×Key):Prop:=∃ p,v = .ref p /\ H p = some (.tup [.int x.1,kV x.2])
theorem NpQ.tk {H H':Hp} {v:V} {x:Nat×Key} (h:NpQ H v x) (t:TK H H'):NpQ H' v x:=let ⟨p,e,h⟩:=h; ⟨p,e,t _ _ h⟩
section
variable {α β:Type} {F G:α -> β -> Prop}
theorem Pd.imp:∀ {l:List α} {m:List β},Paired F l m -> (∀ a b,F a b -> G a b) -> Paired G l m
  | _,_,.nil,_ => .nil
  | _,_,.cons r t,f => .cons (f _ _ r) (Pd.imp t f)
theorem Pd.snoc:∀ {l:List α} {m:List β} {a:α} {b:β},Paired F l m -> F a b -> Paired F (l ++ [a]) (m ++ [b])
  | _,_,_,_,.nil,r => .cons r .nil
  | _,_,_,_,.cons q t,r => .cons q (Pd.snoc t r)
theorem Pd.get:∀ {l:List α} {m:List β} {i:Nat} {b:β},Paired F l m -> m[i]? = some b -> ∃ a,l[i]? = some a /\ F a b
  | _,_,_,_,.nil,e => by simp at e
  | _,_,0,_,.cons r _,e => by simp at e; subst e; exact ⟨_,rfl,r⟩
  | _,_,i + 1,b,.cons _ t,e => by
    obtain ⟨y,h1,h2⟩:=Pd.get (i:=i) (b:=b) t (by simpa using e)
    exact ⟨y,by simpa using h1,h2⟩
end
noncomputable def LQ {β:Type} (R:Hp -> V -> β -> Prop) (H:Hp) (l:Addr) (ds:List β):Prop:=∃ vs,H l = some (.lst vs) /\ Paired (R H) vs ds
noncomputable def KQ {β:Type} (R:Hp -> V -> β -> Prop) (H:Hp) (kvs:List (Key×V)) (m:List (Key×β)):Prop:=Paired (fun kv ab => kv.1 = ab.1 /\ R H kv.2 ab.2) kvs m
noncomputable def DQ {β:Type} (R:Hp -> V -> β -> Prop) (H:Hp) (d:Addr) (m:List (Key×β)):Prop:=∃ kvs,H d = some (.dK kvs) /\ KQ R H kvs m
section
variable {β:Type} {R:Hp -> V -> β -> Prop} {H H':Hp} {l d:Addr} {ds:List β} {m:List (Key×β)} {kvs:List (Key×V)}
theorem LQ.same (h:LQ R H l ds) (hR:∀ v b,R H v b -> R H' v b) (s:Same H H'):LQ R H' l ds:=let ⟨vs,a,b⟩:=h; ⟨vs,s _ _ a,Pd.imp b hR⟩
theorem LQ.at (h:LQ R H l ds) (hR:∀ v b,R H v b -> R H' v b) (s:H' l = H l):LQ R H' l ds:=let ⟨vs,a,b⟩:=h; ⟨vs,s.trans a,Pd.imp b hR⟩
theorem KQ.imp {R':Hp -> V -> β -> Prop} (h:KQ R H kvs m) (hR:∀ v b,R H v b -> R' H' v b):KQ R' H' kvs m:=Pd.imp h fun _ _ q => ⟨q.1,hR _ _ q.2⟩
theorem KQ.keys:∀ {kvs:List (Key×V)} {m:List (Key×β)},KQ R H kvs m -> kvs.map (·.1) = m.map (·.1)
  | _,_,.nil => rfl
  | _,_,.cons r t => by rw [List.map_cons,List.map_cons,r.1,KQ.keys t]
theorem KQ.len (h:KQ R H kvs m):kvs.length = m.length:=Paired.length h
theorem KQ.val:∀ {kvs:List (Key×V)} {m:List (Key×β)} {k:Key},KQ R H kvs m -> (valV kvs k = none /\ aget m k = none) ∨ ∃ v b,valV kvs k = some v /\ aget m k = some b /\ R H v b
  | _,_,_,.nil => .inl ⟨rfl,rfl⟩
  | _,_,k,.cons (a:=p) (b:=q) (l₁:=as) (l₂:=bs) r t => by
    by_cases e:p.1 = k
    . refine .inr ⟨p.2,q.2,valV_pos e,?_,r.2⟩
      have e':q.1 = k:=r.1 ▸ e
      simp [aget,List.find?_cons,e']
    . have e':¬ q.1 = k:=fun z => e (r.1.trans z)
      have h1:valV (p :: as) k = valV as k:=valV_neg e
      rw [h1]
      have h2:aget (q :: bs) k = aget bs k:=by simp [aget,List.find?_cons,e']
      rw [h2]
      exact KQ.val t
theorem KQ.repl {k:Key} {v:V} {b:β} (hv:R H v b):∀ {kvs:List (Key×V)} {m:List (Key×β)},KQ R H kvs m -> KQ R H (kvs.map fun kv => if kv.1 = k then (kv.1,v) else kv) (m.map fun kv => if kv.1 = k then (kv.1,b) else kv)
  | _,_,.nil => .nil
  | _,_,.cons (a:=p) (b:=q) r t => by
    refine .cons ?_ (KQ.repl hv t)
    dsimp only
    by_cases e:p.1 = k
    . rw [if_pos e,if_pos (r.1 ▸ e)]
      exact ⟨r.1,hv⟩
    . rw [if_neg e,if_neg (fun z => e (r.1.trans z))]
      exact r
theorem KQ.any {k:Key}:∀ {kvs:List (Key×V)} {m:List (Key×β)},KQ R H kvs m -> (kvs.any fun kv => decide (kv.1 = k)) = m.any fun kv => decide (kv.1 = k)
  | _,_,.nil => rfl
  | _,_,.cons r t => by rw [List.any_cons,List.any_cons,r.1,KQ.any t]
theorem KQ.put {k:Key} {v:V} {b:β} (h:KQ R H kvs m) (hv:R H v b):KQ R H (putK kvs k v) (aput m k b):=by
  unfold putK aput
  rw [KQ.any h]
  split
  . exact KQ.repl hv h
  . exact Pd.snoc h ⟨rfl,hv⟩
theorem KQ.drop {k:Key}:∀ {kvs:List (Key×V)} {m:List (Key×β)},KQ R H kvs m -> KQ R H (dropK kvs k) (adrop m k)
  | _,_,.nil => .nil
  | _,_,.cons (a:=p) (b:=q) (l₁:=as) (l₂:=bs) r t => by
    have ih:=KQ.drop (k:=k) t
    by_cases e:p.1 = k
    . have h1:dropK (p :: as) k = dropK as k:=dropK_pos e
      rw [h1]
      have h2:adrop (q :: bs) k = adrop bs k:=by unfold adrop; rw [List.filter_cons]; simp [show q.1 = k from r.1 ▸ e]
      rw [h2]
      exact ih
    . have h1:dropK (p :: as) k = p :: dropK as k:=dropK_neg e
      rw [h1]
      have h2:adrop (q :: bs) k = q :: adrop bs k:=by unfold adrop; rw [List.filter_cons]; simp [show ¬ q.1 = k from fun z => e (r.1.trans z)]
      rw [h2]
      exact .cons r ih
end
theorem i_sN {β:Type} {A B:Prop} (k:B):if (none:Option β).isSome = true then A else B:=k
theorem i_sS {β:Type} {b:β} {A B:Prop} (k:A):if (some b).isSome = true then A else B:=k
theorem r_nxD {D:Ends} {σ:St} {H:Hp} (k:D.nx σ H):D.nx σ H:=k
theorem r_rtD {D:Ends} {v:V} {H:Hp} (k:D.rt v H):D.rt v H:=k
theorem r_bkD {D:Ends} {σ:St} {H:Hp} (k:D.bk σ H):D.bk σ H:=k
theorem r_ctD {D:Ends} {σ:St} {H:Hp} (k:D.ct σ H):D.ct σ H:=k
theorem r_dmN {a:Addr} {D:Ends} {σ:St} {H:Hp} (k:D.nx σ (melt a H)):(Dm a D).nx σ H:=k
theorem r_dmR {a:Addr} {D:Ends} {v:V} {H:Hp} (k:D.rt v (melt a H)):(Dm a D).rt v H:=k
theorem Room.u1 {k:Nat} {A:Around} (r:Room k A):A.units + 1 < cLine:=by have:=r.units; omega
section
variable {X:Cx} {σ:St} {H H':Hp} {Q:VK} {K:PySem.W.Frag} {v x y:V} {w:World}
theorem Same.app {b:Addr} {o:HO} (s:Same H H') (h:H b = some o):H' b = some o:=s _ _ h
theorem Kp.app {p b:Addr} {o:HO} (s:Kp p H H') (n:b ≠ p) (h:H b = some o):H' b = some o:=s _ _ n h
theorem upd_not {q b:Addr} {o u:HO} (n:b ≠ q) (h:H b = some u):upd H q o b = some u:=by rw [upd_ne n]; exact h
noncomputable def rIsN:R2:=fun x y H Q => y = .non /\ Q (.bl (decide (x = .non))) H
noncomputable def rNotN:R2:=fun x y H Q => y = .non /\ Q (.bl (!decide (x = .non))) H
theorem op_isN2:OpR X (compareOp .Is) rIsN:=op_isN
theorem op_notN2:OpR X (compareOp .IsNot) rNotN:=op_notN
theorem r_isNr {p:Addr} (k:Q (.bl false) H):rIsN (.ref p) .non H Q:=⟨rfl,k⟩
theorem r_isNn (k:Q (.bl true) H):rIsN .non .non H Q:=⟨rfl,k⟩
theorem r_isNs {s:Str} (k:Q (.bl false) H):rIsN (.str s) .non H Q:=⟨rfl,k⟩
theorem r_isNi {i:Int} (k:Q (.bl false) H):rIsN (.int i) .non H Q:=⟨rfl,k⟩
theorem r_isNk {c:Key} (k:Q (.bl false) H):rIsN (kV c) .non H Q:=⟨rfl,by cases c <;> exact k⟩
theorem r_noNr {p:Addr} (k:Q (.bl true) H):rNotN (.ref p) .non H Q:=⟨rfl,k⟩
theorem r_noNn (k:Q (.bl false) H):rNotN .non .non H Q:=⟨rfl,k⟩
theorem r_noNs {s:Str} (k:Q (.bl true) H):rNotN (.str s) .non H Q:=⟨rfl,k⟩
noncomputable def bmK (K:PySem.W.Frag) (T:String) (r:V -> List V -> Hp -> VK -> Prop) (t:TA) (σ:St) (Q:VK):VK:=fun x H1 => tyV K T x H1 /\ t σ H1 fun xs H2 => r x xs H2 Q
theorem r_bm {T:String} {r:V -> List V -> Hp -> VK -> Prop} {to:TE} {t:TA} (k:to σ H (bmK K T r t σ Q)):tBM K T r to t σ H Q:=k
noncomputable def bm0K (K:PySem.W.Frag) (T:String) (r:V -> List V -> Hp -> VK -> Prop) (Q:VK):VK:=fun x H1 => tyV K T x H1 /\ r x [] H1 Q
theorem r_bm0 {T:String} {r:V -> List V -> Hp -> VK -> Prop} {to:TE} (k:to σ H (bm0K K T r Q)):tBM0 K T r to σ H Q:=k
theorem r_bmL {r:V -> List V -> Hp -> VK -> Prop} {t:TA} {l:Addr} {xs:List V} (h:H l = some (.lst xs)) (k:t σ H fun vs H2 => r (.ref l) vs H2 Q):bmK K "list" r t σ Q (.ref l) H:=⟨.inl ⟨rfl,xs,SqL.of h⟩,k⟩
theorem r_bmD {r:V -> List V -> Hp -> VK -> Prop} {t:TA} {l:Addr} {xs:List (Key×V)} (h:H l = some (.dK xs)) (k:t σ H fun vs H2 => r (.ref l) vs H2 Q):bmK K "dict" r t σ Q (.ref l) H:=⟨.inr (.inr (.inl ⟨rfl,.inl ⟨xs,h⟩⟩)),k⟩
theorem r_bm0D {r:V -> List V -> Hp -> VK -> Prop} {l:Addr} {xs:List (Key×V)} (h:H l = some (.dK xs)) (k:r (.ref l) [] H Q):bm0K K "dict" r Q (.ref l) H:=⟨.inr (.inr (.inl ⟨rfl,.inl ⟨xs,h⟩⟩)),k⟩
theorem r_bmS {r:V -> List V -> Hp -> VK -> Prop} {t:TA} {s:Str} (k:t σ H fun vs H2 => r (.str s) vs H2 Q):bmK K "str" r t σ Q (.str s) H:=⟨rfl,k⟩
theorem r_app {l:Addr} {xs:List V} (h:H l = some (.lst xs)) (hl:xs.length <= 1000) (k:Q .non (upd H l (.lst (xs ++ [y])))):rAppend (.ref l) [y] H Q:=⟨l,xs,y,rfl,rfl,h,small1000 hl,k⟩
theorem r_ext {l b:Addr} {xs zs:List V} (h:H l = some (.lst xs)) (h2:H b = some (.lst zs)) (hl:xs.length + zs.length <= 1000) (k:Q .non (upd H l (.lst (xs ++ zs)))):rExtend (.ref l) [.ref b] H Q:=⟨l,b,xs,zs,rfl,rfl,h,h2,le_line hl,k⟩
theorem NoFrz.dK {a:Addr} {kvs:List (Key×V)} (h:H a = some (.dK kvs)):NoFrz H a:=fun o u e => by rw [h] at e; cases e
theorem NoFrz.none {a:Addr} (h:H a = none):NoFrz H a:=fun o u e => by rw [h] at e; cases e
end
end L2
namespace L2
open PySem PySem.Spec PyProof.Rows
theorem valV_snoc2 {kvs:List (Key×V)} {p q:Key} {v:V} (h:valV kvs p = none):valV (kvs ++ [(p,v)]) q = if q = p then some v else valV kvs q:=by
  by_cases e:q = p
  . subst e
    rw [if_pos rfl]
    induction kvs with
    | nil => exact valV_pos rfl
    | cons kv r ih =>
      by_cases z:kv.1 = q
      . rw [valV_pos z] at h; cases h
      . rw [valV_neg z] at h
        rw [List.cons_append,valV_neg z]
        exact ih h
  . rw [if_neg e]
    clear h
    induction kvs with
    | nil => exact valV_neg (fun z => e z.symm)
    | cons kv r ih =>
      by_cases z:kv.1 = q
      . rw [List.cons_append,valV_pos z,valV_pos z]
      . rw [List.cons_append,valV_neg z,valV_neg z]
        exact ih
structure BI (H H1:Hp) (d:Addr) (f:Key -> List (Nat×Key)) (n:Nat):Prop where
  same:Same H H1
  dn:H d = none
  ex:∃ kvs,H1 d = some (.dK kvs) /\ kvs.length <= n /\ (∀ p,valV kvs p = none -> f p = []) /\ (∀ p v,valV kvs p = some v -> ∃ l,v = .ref l /\ H l = none /\ LQ NpQ H1 l (f p)) /\ ∀ p q l,valV kvs p = some (.ref l) -> valV kvs q = some (.ref l) -> p = q
noncomputable def bs1 (f:Key -> List (Nat×Key)) (p:Key) (x:Nat×Key):Key -> List (Nat×Key):=fun q => if q = p then f q ++ [x] else f q
theorem BI.start {H:Hp} {d:Addr} (h:H d = none):BI H (upd H d (.dK [])) d (fun _ => []) 0 :=
  ⟨Same.new h,h,[],upd_same,Nat.le_refl _,fun _ _ => rfl,fun p v e => (by cases e),fun p q l e => (by cases e)⟩
theorem NpQ.imp {H H':Hp} (t:TK H H'):∀ v b,NpQ H v b -> NpQ H' v b:=fun v b h => h.tk t
theorem BI.alloc {H H1:Hp} {d q:Addr} {o:HO} {f:Key -> List (Nat×Key)} {n:Nat} (B:BI H H1 d f n) (h:H1 q = none):BI H (upd H1 q o) d f n:=by
  obtain ⟨kvs,a,b,c,e,g⟩:=B.ex
  refine ⟨B.same.trans (Same.new h),B.dn,kvs,upd_old h a,b,c,fun p v z => ?_,g⟩
  obtain ⟨l,rfl,hl,q⟩:=e p v z
  exact ⟨l,rfl,hl,q.same (NpQ.imp (TK.new h)) (Same.new h)⟩
theorem BI.old {H H1:Hp} {d l t:Addr} {p:Key} {x:Nat×Key} {f:Key -> List (Nat×Key)} {n:Nat} {kvs:List (Key×V)} {xs:List V} (B:BI H H1 d f n) (hd:H1 d = some (.dK kvs)) (hv:valV kvs p = some (.ref l)) (hl:H1 l = some (.lst xs)) (ht:H1 t = some (.tup [.int x.1,kV x.2])) :
    BI H (upd H1 l (.lst (xs ++ [.ref t]))) d (bs1 f p x) n:=by
  obtain ⟨kvs',a,b,c,e,g⟩:=B.ex
  rw [hd] at a
  cases a
  have tk:TK H1 (upd H1 l (.lst (xs ++ [.ref t]))):=TK.lst hl
  obtain ⟨l',e1,hln,ys,hy,py⟩:=e p _ hv
  cases e1
  rw [hl] at hy
  cases hy
  refine ⟨fun b o h => ?_,B.dn,kvs,?_,b,fun q z => ?_,fun q v z => ?_,g⟩
  . rw [upd_ne (ne_of_none h hln)]
    exact B.same _ _ h
  . rw [upd_ne (ne_of hd hl (by intro z; cases z))]
    exact hd
  . have hq:q ≠ p:=fun w => by subst w; rw [hv] at z; cases z
    show (if q = p then _ else _) = _
    rw [if_neg hq]
    exact c q z
  . obtain ⟨m,rfl,hm,zs,hz,pz⟩:=e q v z
    by_cases hq:q = p
    . subst hq
      rw [hv] at z
      cases z
      refine ⟨l,rfl,hln,xs ++ [.ref t],upd_same,?_⟩
      show Paired _ _ (if q = q then _ else _)
      rw [if_pos rfl]
      exact Pd.snoc (Pd.imp py (NpQ.imp tk)) ⟨t,rfl,tk _ _ ht⟩
    . refine ⟨m,rfl,hm,zs,?_,?_⟩
      . have:m ≠ l:=fun w => by subst w; exact hq (g _ _ _ z hv)
        rw [upd_ne this]
        exact hz
      . show Paired _ _ (if q = p then _ else _)
        rw [if_neg hq]
        exact Pd.imp pz (NpQ.imp tk)
theorem BI.key {H H1:Hp} {d l:Addr} {p:Key} {f:Key -> List (Nat×Key)} {n:Nat} {kvs:List (Key×V)} (B:BI H H1 d f n) (hd:H1 d = some (.dK kvs)) (hv:valV kvs p = none) (hl:H1 l = some (.lst [])) (hn:H l = none) (hf:∀ q,valV kvs q ≠ some (.ref l)) :
    BI H (upd H1 d (.dK (kvs ++ [(p,.ref l)]))) d f (n + 1):=by
  obtain ⟨kvs',a,b,c,e,g⟩:=B.ex
  rw [hd] at a
  cases a
  have tk:TK H1 (upd H1 d (.dK (kvs ++ [(p,.ref l)]))):=TK.dic hd
  refine ⟨fun b o h => ?_,B.dn,kvs ++ [(p,.ref l)],upd_same,by simp; exact b,fun q z => ?_,fun q v z => ?_,fun q r m z1 z2 => ?_⟩
  . rw [upd_ne (ne_of_none h B.dn)]
    exact B.same _ _ h
  . rw [valV_snoc2 hv] at z
    by_cases hq:q = p
    . rw [if_pos hq] at z; cases z
    . rw [if_neg hq] at z; exact c q z
  . rw [valV_snoc2 hv] at z
    by_cases hq:q = p
    . rw [if_pos hq] at z
      cases z
      subst hq
      refine ⟨l,rfl,hn,[],?_,?_⟩
      . rw [upd_ne (ne_of hl hd (by intro z; cases z))]; exact hl
      . rw [c q hv]; exact .nil
    . rw [if_neg hq] at z
      obtain ⟨m,rfl,hm,zs,hz,pz⟩:=e q v z
      refine ⟨m,rfl,hm,zs,?_,Pd.imp pz (NpQ.imp tk)⟩
      rw [upd_ne (ne_of hz hd (by intro z; cases z))]; exact hz
  . rw [valV_snoc2 hv] at z1 z2
    by_cases h1:q = p <;> by_cases h2:r = p
    . rw [h1,h2]
    . rw [if_pos h1] at z1; rw [if_neg h2] at z2
      cases z1
      exact absurd z2 (hf r)
    . rw [if_neg h1] at z1; rw [if_pos h2] at z2
      cases z2
      exact absurd z1 (hf q)
    . rw [if_neg h1] at z1; rw [if_neg h2] at z2
      exact g q r m z1 z2
theorem BI.mono {H H1:Hp} {d:Addr} {f:Key -> List (Nat×Key)} {m n:Nat} (B:BI H H1 d f m) (h:m <= n):BI H H1 d f n:=by
  obtain ⟨kvs,a,b,c⟩:=B.ex
  exact ⟨B.same,B.dn,kvs,a,Nat.le_trans b h,c⟩
theorem BI.non {H H1:Hp} {d l:Addr} {f:Key -> List (Nat×Key)} {n:Nat} (B:BI H H1 d f n) (h:H1 l = none):H l = none:=by
  cases e:H l with
  | none => rfl
  | some o => rw [B.same _ _ e] at h; cases h
theorem BI.more {H H1:Hp} {d l q t:Addr} {p:Key} {x:Nat×Key} {f:Key -> List (Nat×Key)} {n:Nat} {kvs:List (Key×V)} {xs:List V} (B:BI H H1 d f n) (hd:H1 d = some (.dK kvs)) (hv:valV kvs p = some (.ref l)) (hl:H1 l = some (.lst xs)) (hq:H1 q = none) (ht:upd H1 q (.lst []) t = none) :
    BI H (upd (upd (upd H1 q (.lst [])) t (.tup [.int x.1,kV x.2])) l (.lst (xs ++ [.ref t]))) d (bs1 f p x) (n + 1) :=
  (((B.alloc hq).alloc ht).old (upd_old ht (upd_old hq hd)) hv (upd_old ht (upd_old hq hl)) upd_same).mono (Nat.le_succ _)
theorem BI.new {H H1:Hp} {d l t:Addr} {p:Key} {x:Nat×Key} {f:Key -> List (Nat×Key)} {n:Nat} {kvs:List (Key×V)} (B:BI H H1 d f n) (hd:H1 d = some (.dK kvs)) (hv:valV kvs p = none) (hl:H1 l = none) (ht:upd (upd H1 l (.lst [])) d (.dK (kvs ++ [(p,.ref l)])) t = none) :
    BI H (upd (upd (upd (upd H1 l (.lst [])) d (.dK (kvs ++ [(p,.ref l)]))) t (.tup [.int x.1,kV x.2])) l (.lst ([] ++ [.ref t]))) d (bs1 f p x) (n + 1):=by
  have hdl:l ≠ d:=fun z => by subst z; rw [hl] at hd; cases hd
  have B1:=(B.alloc (o:=.lst []) hl).key (l:=l) (upd_old hl hd) hv upd_same (B.non hl) (fun q z => by
    obtain ⟨kvs',a,_,_,e,_⟩:=B.ex
    rw [hd] at a
    cases a
    obtain ⟨m,e1,_,zs,hz,_⟩:=e q _ z
    cases e1
    rw [hl] at hz
    cases hz)
  exact (B1.alloc ht).old (upd_old ht upd_same) (by rw [valV_snoc2 hv,if_pos rfl]) (upd_old ht (by rw [upd_ne hdl]; exact upd_same)) upd_same
noncomputable def BsOf (net:List (RunD Key)) (i:Nat) (f:Key -> List (Nat×Key)):Prop:=∀ q k x,(k,x) ∈ f q ↔ k < i /\ ∃ r,net[k]? = some r /\ Jn r q x
theorem BsOf.zero {net:List (RunD Key)}:BsOf net 0 (fun _ => []):=fun q k x => ⟨fun h => by simp at h,fun h => absurd h.1 (Nat.not_lt_zero _)⟩
theorem BsOf.next {net:List (RunD Key)} {i:Nat} {f:Key -> List (Nat×Key)} {r:RunD Key} (h:BsOf net i f) (hr:net[i]? = some r):BsOf net (i + 1) (bs1 (bs1 f r.1 (i,r.2.1)) r.2.1 (i,r.1)):=by
  intro q k x
  have key:(k,x) ∈ bs1 (bs1 f r.1 (i,r.2.1)) r.2.1 (i,r.1) q ↔ (k,x) ∈ f q ∨ (q = r.1 /\ k = i /\ x = r.2.1) ∨ (q = r.2.1 /\ k = i /\ x = r.1):=by
    unfold bs1
    split <;> split <;> simp_all
  rw [key,h q k x]
  constructor
  . rintro (⟨h1,h2⟩ | ⟨rfl,rfl,rfl⟩ | ⟨rfl,rfl,rfl⟩)
    . exact ⟨by omega,h2⟩
    . exact ⟨by omega,r,hr,.inl ⟨rfl,rfl⟩⟩
    . exact ⟨by omega,r,hr,.inr ⟨rfl,rfl⟩⟩
  . rintro ⟨h1,r',h2,h3⟩
    by_cases hk:k = i
    . subst hk
      rw [hr] at h2
      cases h2
      rcases h3 with ⟨rfl,rfl⟩ | ⟨rfl,rfl⟩
      . exact .inr (.inl ⟨rfl,rfl,rfl⟩)
      . exact .inr (.inr ⟨rfl,rfl,rfl⟩)
    . exact .inl ⟨by omega,r',h2,h3⟩
noncomputable def Bes (H:Hp) (d:Addr) (net:List (RunD Key)):Prop:=∃ kvs f,H d = some (.dK kvs) /\ BsOf net net.length f /\ (∀ q,(f q).length <= 2 * net.length) /\ (∀ p,valV kvs p = none -> f p = []) /\ ∀ p v,valV kvs p = some v -> ∃ l,v = .ref l /\ LQ NpQ H l (f p)
theorem nd_len {α:Type} [DecidableEq α]:∀ {l m:List α},l.Nodup -> (∀ x ∈ l,x ∈ m) -> l.length <= m.length
  | [],_,_,_ => Nat.zero_le _
  | a :: l,m,nd,h => by
    rw [List.nodup_cons] at nd
    have ha:=h a (by simp)
    have:=nd_len (l:=l) (m:=m.erase a) nd.2 fun x hx => by
      have hne:x ≠ a:=fun z => nd.1 (by rw [← z]; exact hx)
      exact (List.mem_erase_of_ne hne).mpr (h x (by simp [hx]))
    have h2:=List.length_erase_of_mem ha
    have h3:0 < m.length:=List.length_pos_of_mem ha
    rw [List.length_cons]
    omega
theorem putK_none {kvs:List (Key×V)} {k:Key} {v:V} (h:k ∉ kvs.map (·.1)):putK kvs k v = kvs ++ [(k,v)]:=by
  unfold putK
  rw [if_neg]
  intro z
  obtain ⟨x,hx,e⟩:=List.any_eq_true.mp z
  exact h (List.mem_map.mpr ⟨x,hx,of_decide_eq_true e⟩)
theorem mergeK_nd:∀ {more kvs:List (Key×V)},((kvs ++ more).map (·.1)).Nodup -> mergeK kvs more = kvs ++ more
  | [],kvs,_ => by simp [mergeK]
  | kv :: r,kvs,nd => by
    have h1:kv.1 ∉ kvs.map (·.1):=by
      rw [List.map_append,List.nodup_append] at nd
      intro z
      exact nd.2.2 _ z kv.1 (by simp) rfl
    show mergeK (putK kvs kv.1 kv.2) r = _
    rw [putK_none h1,mergeK_nd (by simpa using nd)]
    simp
section
variable {te:TE} {Q:VK} {H:Hp} {caps:St}
end
noncomputable def Kp2 (a b:Addr) (H H':Hp):Prop:=∀ c o,c ≠ a -> c ≠ b -> H c = some o -> H' c = some o
theorem Kp2.refl {a b:Addr} (H:Hp):Kp2 a b H H:=fun _ _ _ _ h => h
theorem Kp2.trans {a b:Addr} {H H1 H2:Hp} (x:Kp2 a b H H1) (y:Kp2 a b H1 H2):Kp2 a b H H2:=fun c o h1 h2 h => y c o h1 h2 (x c o h1 h2 h)
theorem Kp2.l {a b:Addr} {H:Hp} {o:HO}:Kp2 a b H (upd H a o):=fun c u h1 _ h => by rw [upd_ne h1]; exact h
theorem Kp2.r {a b:Addr} {H:Hp} {o:HO}:Kp2 a b H (upd H b o):=fun c u _ h2 h => by rw [upd_ne h2]; exact h
theorem Kp2.tk {a b:Addr} {H H':Hp} {x y:List (Key×V)} (k:Kp2 a b H H') (ha:H a = some (.dK x)) (hb:H b = some (.dK y)):TK H H':=fun p xs h => k p _ (ne_of h ha (by intro z; cases z)) (ne_of h hb (by intro z; cases z)) h
theorem Kp2.lst {a b p:Addr} {H H':Hp} {x y:List (Key×V)} {xs:List V} (k:Kp2 a b H H') (ha:H a = some (.dK x)) (hb:H b = some (.dK y)) (h:H p = some (.lst xs)):H' p = some (.lst xs):=k p _ (ne_of h ha (by intro z; cases z)) (ne_of h hb (by intro z; cases z)) h
theorem Kp2.same {a b:Addr} {H0 H H':Hp} (k:Kp2 a b H H') (s:Same H0 H) (ha:H0 a = none) (hb:H0 b = none):Same H0 H':=fun c o h => k c o (ne_of_none h ha) (ne_of_none h hb) (s _ _ h)
structure NetIn (H:Hp) (l:Addr) (net:List (RunD Key)) (D M:Nat):Prop where
  lq:LQ RunQ H l net
  len:net.length <= 120
  bd:∀ r ∈ net,Bd D M r.2.2
  pos:∀ r ∈ net,0 < r.2.2
structure PsIn (H:Hp) (l:Addr) (ps:List (Key×Rat)) (D M:Nat):Prop where
  lq:LQ KvQ H l ps
  len:ps.length <= 100
  bd:∀ r ∈ ps,Bd D M r.2
structure TsIn (H:Hp) (v:V) (ts:List (Key×Rat)):Prop where
  lq:(v = .non /\ ts = []) ∨ ∃ l,v = .ref l /\ LQ KvQ H l ts
  len:ts.length <= 100
  sz:∀ r ∈ ts,Sz 8000 r.2
structure Room8 (D M:Nat):Prop where
  ne:D ≠ 0
  d:D < 2 ^ 8000
  m:M * 1000 * D < 2 ^ 8000
theorem Room8.sz {D M N:Nat} {q:Rat} (R:Room8 D M) (h:Bd D N q) (hn:N <= M * 1000):Sz 8000 q:=h.sz R.ne R.d (Nat.lt_of_le_of_lt (Nat.mul_le_mul_right _ hn) R.m)
theorem LQ.sm {β:Type} {R:Hp -> V -> β -> Prop} {H H':Hp} {l:Addr} {ds:List β} (h:LQ R H l ds) (hR:∀ {H H' v b},R H v b -> TK H H' -> R H' v b) (s:Same H H'):LQ R H' l ds:=h.same (fun v b q => hR q s.tk) s
theorem DQ.sm {β:Type} {R:Hp -> V -> β -> Prop} {H H':Hp} {l:Addr} {ds:List (Key×β)} (h:DQ R H l ds) (hR:∀ {H H' v b},R H v b -> TK H H' -> R H' v b) (s:Same H H'):DQ R H' l ds:=let ⟨k,a,b⟩:=h; ⟨k,s _ _ a,b.imp fun v b q => hR q s.tk⟩
theorem NetIn.sm {H H':Hp} {l:Addr} {net:List (RunD Key)} {D M:Nat} (h:NetIn H l net D M) (s:Same H H'):NetIn H' l net D M:=⟨h.lq.sm RunQ.tk s,h.len,h.bd,h.pos⟩
theorem PsIn.sm {H H':Hp} {l:Addr} {ps:List (Key×Rat)} {D M:Nat} (h:PsIn H l ps D M) (s:Same H H'):PsIn H' l ps D M:=⟨h.lq.sm KvQ.tk s,h.len,h.bd⟩
theorem TsIn.sm {H H':Hp} {v:V} {ts:List (Key×Rat)} (h:TsIn H v ts) (s:Same H H'):TsIn H' v ts:=⟨h.lq.imp id fun ⟨l,e,q⟩ => ⟨l,e,q.sm KvQ.tk s⟩,h.len,h.sz⟩
theorem Bes.k2 {H H':Hp} {d a b:Addr} {net:List (RunD Key)} {x y:List (Key×V)} (h:Bes H d net) (k:Kp2 a b H H') (ha:H a = some (.dK x)) (hb:H b = some (.dK y)) (h1:d ≠ a) (h2:d ≠ b):Bes H' d net:=by
  obtain ⟨kvs,f,z1,z2,z3,z4,z5⟩:=h
  refine ⟨kvs,f,k _ _ h1 h2 z1,z2,z3,z4,fun p v e => ?_⟩
  obtain ⟨l,rfl,vs,q1,q2⟩:=z5 p v e
  exact ⟨l,rfl,vs,k.lst ha hb q1,Pd.imp q2 (NpQ.imp (k.tk ha hb))⟩
theorem Bes.sm {H H':Hp} {d:Addr} {net:List (RunD Key)} (h:Bes H d net) (s:Same H H'):Bes H' d net:=by
  obtain ⟨kvs,f,z1,z2,z3,z4,z5⟩:=h
  exact ⟨kvs,f,s _ _ z1,z2,z3,z4,fun p v e => let ⟨l,a,q⟩:=z5 p v e; ⟨l,a,q.sm NpQ.tk s⟩⟩
section
variable {σ:St} {H:Hp} {Q:VK} {K:PySem.W.Frag}
end
theorem FInv.imp {net:List (RunD Key)} {push:Key -> Option Rat} {tk:Nat -> Option Rat} {C C':Key -> Nat -> Key -> Prop} {W F:AL Key (EntD Key)} (I:FInv net push tk C W F) (h:∀ q k x r,net[k]? = some r -> Jn r q x -> C' q k x -> C q k x):FInv net push tk C' W F :=
  ⟨I.ndW,I.ndF,I.dis,I.sup,I.ord,I.mono,I.psh,fun q e hq k r p h1 h2 h3 h4 => I.clo q e hq k r p h1 h2 (h q k p r h1 h2 h3) h4⟩
noncomputable def univ (net:List (RunD Key)) (ps:List (Key×Rat)):List Key:=ps.map (·.1) ++ (net.map (·.1) ++ net.map (·.2.1))
theorem Sup.univ {net:List (RunD Key)} {ps:List (Key×Rat)} {tk:Nat -> Option Rat} {F:AL Key (EntD Key)} {p:Key} {e:EntD Key} (h:Sup net (aget (lst ps)) tk F p e):p ∈ univ net ps:=by
  obtain ⟨t,o⟩:=e
  cases o with
  | none =>
    have:=lst_mem (aget_mem (show aget (lst ps) p = some t from h))
    exact List.mem_append_left _ (List.mem_map.mpr ⟨_,this,rfl⟩)
  | some kq =>
    obtain ⟨r,e,h1,h2,_⟩:=h
    have hr:=List.mem_of_getElem? h1
    refine List.mem_append_right _ ?_
    rcases h2 with ⟨_,rfl⟩ | ⟨_,rfl⟩
    . exact List.mem_append_right _ (List.mem_map.mpr ⟨r,hr,rfl⟩)
    . exact List.mem_append_left _ (List.mem_map.mpr ⟨r,hr,rfl⟩)
theorem ix_LTc {X:Cx} {scope:Scope} {caps:List (Str×Addr)} {N:List Str} {C:Addr} {s0:Shared} {H0:Hp} {ex:List Addr}:IxR (cxComp X scope caps N C s0 H0 ex) (rIxLT X.K):=ix_LT
noncomputable abbrev TRun:=Str×Str×Rat
noncomputable def kn (n:List TRun):List (RunD Key):=n.map fun r => (Sum.inr r.1,Sum.inr r.2.1,r.2.2)
noncomputable def names (n:List TRun):List Str:=n.map (·.1) ++ n.map (·.2.1)
theorem kn_at {n:List TRun} {i:Nat} {r:RunD Key} (h:(kn n)[i]? = some r):∃ s,n[i]? = some s /\ r = (Sum.inr s.1,Sum.inr s.2.1,s.2.2):=by
  unfold kn at h
  rw [List.getElem?_map] at h
  cases e:n[i]? with
  | none => rw [e] at h; cases h
  | some s => rw [e] at h; exact ⟨s,rfl,(Option.some.inj h).symm⟩
noncomputable def OptQ (H:Hp) (v:V) (o:Option Rat):Prop:=match o with | none => v = .non | some q => FrQ H v q
theorem OptQ.tk {H H':Hp} {v:V} {o:Option Rat} (h:OptQ H v o) (t:TK H H'):OptQ H' v o:=by
  cases o with
  | none => exact h
  | some q => exact FrQ.tk h t
structure TOk (q:Rat):Prop where
  nn:0 <= q
  d:q.den <= 10 ^ 18
  n:q.num.natAbs <= 2 * 10 ^ 18
theorem low_rat {t b:Int} (hb:b ≠ 0):(Rat.divInt t b).num = lowT t b /\ ((Rat.divInt t b).den:Int) = lowB t b:=rat_of hb (lowB_pos hb) (low_cop hb) (low_worth hb)
theorem FrQ.low {H:Hp} {t b:Int} {p:Addr} (hb:b ≠ 0) (h:H p = some (.tup [.int (lowT t b),.int (lowB t b)])):FrQ H (.ref p) (Rat.divInt t b):=⟨p,rfl,by rw [h,(low_rat hb).1,(low_rat hb).2]⟩
theorem TOk.low {t b:Int} (ht:0 <= t) (ht2:t <= 2 * 10 ^ 18) (hb:0 < b) (hb2:b <= 10 ^ 18):TOk (Rat.divInt t b):=by
  have hb0:b ≠ 0:=by omega
  have h1:=low_rat (t:=t) hb0
  have h2:=lowT_le (t:=t) hb0
  have h3:=lowB_le (t:=t) hb0
  refine ⟨?_,?_,?_⟩
  . rw [← Rat.num_nonneg,h1.1]
    have e:=low_worth (t:=t) hb0
    have hp:=lowB_pos (t:=t) hb0
    have:0 <= lowT t b * b:=by rw [e]; exact Int.mul_nonneg ht (by omega)
    exact Int.nonneg_of_mul_nonneg_left this hb
  . have:=h1.2
    omega
  . rw [h1.1]
    omega
theorem low_pos {t b:Int} (ht:0 < t) (hb:0 < b):0 < Rat.divInt t b:=by
  rw [Rat.lt_iff,(low_rat (t:=t) (b:=b) (by omega)).1]
  show (0:Int) * _ < lowT t b * 1
  rw [Int.zero_mul,Int.mul_one]
  have e:=low_worth (t:=t) (b:=b) (by omega)
  have hp:=lowB_pos (t:=t) (b:=b) (by omega)
  have:0 < lowT t b * b:=by rw [e]; exact Int.mul_pos ht hp
  exact Int.pos_of_mul_pos_left this hb
noncomputable abbrev abc:Str:=Str.ofString "abcdefghijklmnopqrstuvwxyz"
theorem abc_len:abc.length = 26:=by decide +kernel
theorem abc_at:∀ j:Nat,j < 26 -> atI abc.cps.toList (j:Int) = some (97 + j):=by decide +kernel
section
variable {σ:St} {H:Hp} {Q:VK} {K:PySem.W.Frag}
theorem r_ixS {z:Str} {i:Int} {c:Nat} (hz:z.length <= 100000) (e:atI z.cps.toList i = some c) (k:Q (.str ⟨#[c]⟩) H):rIxLT K (.str z) (.int i) H Q:=.inr (.inr ⟨z,i,c,rfl,rfl,by rw [sizeLine_eq]; omega,e,k⟩)
theorem r_addS {a b:Str} (h:a.length + b.length <= 100000) (k:Q (.str (a ++ b)) H):rAddA K (.str a) (.str b) H Q:=.inr (.inr (.inr ⟨a,b,rfl,rfl,by rw [sizeLine_eq]; omega,k⟩))
end
theorem len_app (a b:Str):(a ++ b).length = a.length + b.length:=by
  show (a.cps ++ b.cps).size = _
  simp [Str.length]
structure Room39 (D M:Nat):Prop where
  ne:D ≠ 0
  d:D < 2 ^ 3900
  m:M * 20000 * D < 2 ^ 3900
theorem Room39.sz {D M N:Nat} {q:Rat} (R:Room39 D M) (h:Bd D N q) (hn:N <= M * 20000):Sz 3900 q:=h.sz R.ne R.d (Nat.lt_of_le_of_lt (Nat.mul_le_mul_right _ hn) R.m)
structure TolI (H3 G:Hp) (dT:Addr) (net:List (RunD Key)) (ps:List (Key×Rat)) (D B:Nat) (m:AL Key Rat):Prop where
  kp:Kp dT H3 G
  dq:DQ FrQ G dT m
  nd:(m.map (·.1)).Nodup
  un:∀ x ∈ m,x.1 ∈ univ net ps
  bd:∀ x ∈ m,Bd D B x.2
theorem TolI.sm {H3 G G':Hp} {dT:Addr} {net:List (RunD Key)} {ps:List (Key×Rat)} {D B:Nat} {m:AL Key Rat} (t:TolI H3 G dT net ps D B m) (s:Same G G'):TolI H3 G' dT net ps D B m :=
  ⟨fun b o h1 h2 => s _ _ (t.kp b o h1 h2),t.dq.sm FrQ.tk s,t.nd,t.un,t.bd⟩
theorem TolI.mono {H3 G:Hp} {dT:Addr} {net:List (RunD Key)} {ps:List (Key×Rat)} {D B B':Nat} {m:AL Key Rat} (t:TolI H3 G dT net ps D B m) (h:B <= B'):TolI H3 G dT net ps D B' m :=
  ⟨t.kp,t.dq,t.nd,t.un,fun x hx => (t.bd x hx).mono h⟩
theorem TolI.put {H3 G:Hp} {dT:Addr} {net:List (RunD Key)} {ps:List (Key×Rat)} {D B:Nat} {m:AL Key Rat} {kT:List (Key×V)} {k:Key} {v:V} {q:Rat} (t:TolI H3 G dT net ps D B m) (hk:G dT = some (.dK kT)) (hu:k ∈ univ net ps) (f:FrQ G v q) (b:Bd D B q):TolI H3 (upd G dT (.dK (putK kT k v))) dT net ps D B (aput m k q):=by
  obtain ⟨kT',h1,h2⟩:=t.dq
  rw [hk] at h1
  cases h1
  refine ⟨fun b o h1 h2 => by rw [upd_ne h1]; exact t.kp b o h1 h2,⟨_,upd_same,(h2.put f).imp fun v b f => f.tk (TK.dic hk)⟩,aput_nd t.nd,fun x hx => ?_,fun x hx => ?_⟩
  . obtain ⟨x1,x2⟩:=x
    rcases mem_aput hx with ⟨rfl,_⟩ | ⟨_,h⟩
    . exact hu
    . exact t.un _ h
  . obtain ⟨x1,x2⟩:=x
    rcases mem_aput hx with ⟨_,rfl⟩ | ⟨_,h⟩
    . exact b
    . exact t.bd _ h
theorem TolI.len {H3 G:Hp} {dT:Addr} {net:List (RunD Key)} {ps:List (Key×Rat)} {D B:Nat} {m:AL Key Rat} (t:TolI H3 G dT net ps D B m):m.length <= ps.length + 2 * net.length:=by
  have hu:(univ net ps).length = ps.length + 2 * net.length:=by simp [univ]; omega
  have:=nd_len (m:=univ net ps) t.nd fun x hx => by
    obtain ⟨y,hy,rfl⟩:=List.mem_map.mp hx
    exact t.un y hy
  rwa [List.length_map,hu] at this
theorem aget_putF {m:AL Key Rat} {k:Key} {v:Rat}:aget (aput m k v) = fun p => if p = k then some v else aget m p:=by
  funext p
  exact aget_put m k p v
theorem Kp.sm {p:Addr} {H H1 H2:Hp} (k:Kp p H1 H2) (s:Same H H1) (hp:H p = none):Same H H2:=fun b o h => k _ _ (ne_of_none h hp) (s _ _ h)
theorem St3.sm {H H':Hp} {p:Addr} {n:Int} (h:St3 H p n) (s:Same H H'):St3 H' p n:=let ⟨a,b,c,x,y⟩:=h; ⟨a,b,c,s _ _ x,y⟩
noncomputable def dFr (q:Rat):Dt:=.tup [.int q.num,.int q.den]
noncomputable abbrev sA:Str:=Str.ofString "a"
noncomputable abbrev sB:Str:=Str.ofString "b"
noncomputable def n0:List TRun:=[(sA,sB,Rat.divInt 1 2)]
theorem ab:(Sum.inr sA:Key) ≠ Sum.inr sB:=by decide +kernel
theorem Rlx.more {tk:Nat -> Option Rat} {k:Nat} {x s t:Rat} {a b:Key} {m:AL Key Rat} (h1:aget m a = some s) (hn:NotOut tk k (s + x)) (h2:aget m b = some t) (c:¬ s + x < t):Rlx tk k x a b (aget m) (aget m):=by
  refine .inr (.inr ⟨s,h1,hn,.inr ⟨t,h2,?_⟩⟩)
  funext p
  by_cases e:p = b
  . subst e
    rw [if_pos rfl,h2]
    by_cases d:t < s + x
    . rw [if_pos d]
    . rw [if_neg d,Rat.le_antisymm (Rat.not_lt.mp d) (Rat.not_lt.mp c)]
  . rw [if_neg e]
theorem Rlx.new {tk:Nat -> Option Rat} {k:Nat} {x s:Rat} {a b:Key} {m:AL Key Rat} (h1:aget m a = some s) (hn:NotOut tk k (s + x)) (h2:aget m b = none):Rlx tk k x a b (aget m) (aget (aput m b (s + x))):=.inr (.inr ⟨s,h1,hn,.inl ⟨h2,aget_putF⟩⟩)
end L2
namespace L2
open PySem PySem.Spec PyProof.Rows
section
variable {X:Cx}
noncomputable def rSplit:V -> List V -> Hp -> VK -> Prop:=fun x vs H Q => ∃ z y:Str,x = .str z /\ vs = [.str y] /\ (y.length == 0) = false /\ z.length <= 1000000 /\ ∀ l,H l = none -> Q (.ref l) (upd H l (.lst ((Txt.split z y).map V.str)))
theorem texts_vals:∀ (l:List (Str×Tok)),Vals ((l.map (·.1)).map V.str) (strValues l)
  | [] => .nil
  | p :: r => .cons ⟨p.2,rfl⟩ (texts_vals r)
theorem mt_split:MtR X "str.split" rSplit:=by
  intro pins s σ H x vs v us Q I rx rv h
  obtain ⟨z,y,rfl,rfl,hy,hz,q⟩:=h
  obtain ⟨t,rfl⟩:=rx
  obtain ⟨u,rfl,ru⟩:=rv.one
  obtain ⟨t',rfl⟩:=ru
  have hn:(Builtin.Str.partsBetween z (Builtin.Str.occurrences z y 0 z.length (z.length + 1)) y.length).length <= z.length + 2:=by
    have:=StrLaws.occ_length_le z y 0 z.length (z.length + 1)
    rw [length_partsBetween]
    omega
  have fin:∀ (l:List (Str×Tok)) (k:Nat),l.map (·.1) = Txt.split z y -> l.length <= 2000000 -> EP X pins σ Q (.ref s.heap.objs.size) { s with heap:=s.heap.push { cls:=.type "list",data:=.seq (strValues l).toArray },toks:=k }:=fun l k e hl => by
    refine ⟨.ref s.heap.objs.size,_,I.laid (t':=k) (a:=s.heap.objs.size) (o:=.lst ((Txt.split z y).map V.str)) (fun b o g => Heap.get?_push_of_some _ g) (Nat.le_refl _) ⟨?_,_,0,?_,Heap.get?_push_size _ rfl⟩,rfl,q _ (I.hok.fresh (Nat.le_refl _))⟩
    . rw [← e,List.length_map,List.length_map,sizeLine_eq]
      omega
    . rw [← e]
      exact texts_vals l
  have sz:z.length <= sizeLine:=by rw [sizeLine_eq]; omega
  cases h1:(decide (z.length < y.length) || decide (Builtin.Str.strKind z < Builtin.Str.strKind y))
  . cases hf:(Builtin.Str.occurrences z y 0 z.length (z.length + 1)).isEmpty
    . refine call_meets F.slot_str_split (typeIs_str _ _ _) F.entry_str_split (F.args_str_split_2 _ _) (meets_str_split_sep z y t t' h1 hy hf sz (by rw [sizeLine_eq]; omega)) ?_
      show wants _ _ _ { s with toks:=_,heap:=s.heap.push { cls:=.type "list",data:=.seq (strsFrom s.toks (Builtin.Str.partsBetween z (Builtin.Str.occurrences z y 0 z.length (z.length + 1)) y.length)).toArray } }
      rw [strsFrom_eq]
      have e:=numbered_texts s.toks (Builtin.Str.partsBetween z (Builtin.Str.occurrences z y 0 z.length (z.length + 1)) y.length)
      have e2:=congrArg List.length e
      rw [List.length_map] at e2
      exact fin _ _ (e.trans ((if_neg (ne_true_of_eq_false h1)).trans (if_neg (ne_true_of_eq_false hf))).symm) (by omega)
    . refine call_meets F.slot_str_split (typeIs_str _ _ _) F.entry_str_split (F.args_str_split_2 _ _) (meets_str_split_not_found z y t t' h1 hy hf) ?_
      exact fin [(z,t)] s.toks ((if_neg (ne_true_of_eq_false h1)).trans (if_pos hf)).symm (by simp)
  . refine call_meets F.slot_str_split (typeIs_str _ _ _) F.entry_str_split (F.args_str_split_2 _ _) (meets_str_split_cannot_occur z y t t' h1) ?_
    exact fin [(z,t)] s.toks (if_pos h1).symm (by simp)
end
end L2
namespace L2
open PySem PySem.Spec PyProof.Rows
noncomputable def Its (z:Str):It:=⟨fun i _ => i < z.cps.size,fun i H x H' => H' = H /\ ∃ c,z.cps[i]? = some c /\ x = .str ⟨#[c]⟩,fun i _ => z.cps.size <= i⟩
theorem turn_signs {P:Program} {w:World} {K:PySem.W.Frag} {tg:Expr} (it:Addr) (z:Str) (t:Tok) (n:String) (hn:n = "str_ascii_iterator" ∨ n = "str_iterator"):Turn P w K tg (Its z) [it] it (fun i h => h.IsStrIter it n z t i) where
  mem:=by simp
  obj:=fun i h st b hb => by
    obtain rfl:b = it:=by simpa using hb
    obtain ⟨o,e,c,d⟩:=st
    exact ⟨o,e,fun v y => by rw [d] at y; cases y⟩
  keep:=fun i h h' st k => let ⟨o,e,r⟩:=st; ⟨o,k it (by simp) o e,r⟩
  item:=by
    intro X hP hw hK hc i pins s σ H E I hf st hg
    subst hP hw hK
    obtain ⟨f0,f1,f2,f3,f4,f5⟩:=hf it (by simp)
    have hg:i < z.cps.size:=hg
    have ec:z.cps[i]? = some z.cps[i]:=by simp [hg]
    have fin:∀ h',h'.IsStrIter it n z t (i + 1) -> Heap.SameBut it s.heap h' -> ∃ u,some (Value.str ⟨#[z.cps[i]]⟩ s.toks) = some u /\
        wpAny (model X.prog X.w) X.A (letOwnedTupleGo tg (.ref it) u) (fun _ s2 => ∃ x H',Inv X pins σ H' s2 /\ RelV x u /\ (Its z).yld i H x H' /\ s2.heap.IsStrIter it n z t (i + 1) /\ ∀ b ∈ [it],H' b = none) E { s with heap:=h',toks:=s.toks + 1 }:=fun h' st' sb => by
      have I1:Inv X pins σ H { s with heap:=h',toks:=s.toks + 1 }:=I.turned (fun b o hb e => (sb.2 b hb).trans e) f0 f1 f3 f4 f5
      obtain ⟨o,e,c,d⟩:=id st'
      have hno:["enumerate","zip","dict_itemiterator","dict_reverseitemiterator","odict_iterator","itertools.zip_longest","itertools.pairwise"].contains n = false:=by
        rcases hn with rfl | rfl <;> decide
      exact ⟨_,rfl,go_of (s:={ s with heap:=h',toks:=s.toks + 1 }) e c d hno ⟨.str ⟨#[z.cps[i]]⟩,H,I1,⟨_,rfl⟩,⟨rfl,_,ec,rfl⟩,st',fun b hb => (hf b hb).1⟩⟩
    rcases hn with rfl | rfl
    . exact wpAny_pyNext_ascii_item st ec fin
    . exact wpAny_pyNext_wide_item st ec fin
  done:=by
    intro X hP hw hK hc i pins s σ H E I hf st hg
    subst hP hw hK
    obtain ⟨f0,f1,f2,f3,f4,f5⟩:=hf it (by simp)
    have hg:z.cps.size <= i:=hg
    have ec:z.cps[i]? = none:=by simp [hg]
    rcases hn with rfl | rfl
    . exact wpAny_pyNext_ascii_end (I.ok.hd hc) st ec fun h' eb => ⟨rfl,I.turned (t':=s.toks) (fun b o hb e => eb b o hb e) f0 f1 f3 f4 f5⟩
    . exact wpAny_pyNext_wide_end (I.ok.hd hc) st ec fun h' eb => ⟨rfl,I.turned (t':=s.toks) (fun b o hb e => eb b o hb e) f0 f1 f3 f4 f5⟩
  self:=fun _ _ _ _ _ st h => by
    rcases hn with rfl | rfl
    . exact wpAny_pyIter_striter_ascii st h
    . exact wpAny_pyIter_striter_wide st h
section
variable {X:Cx} {tg:Expr}
noncomputable def iSigns (tl:TE):TI:=fun σ H R => tl σ H fun x H1 => ∃ z,x = .str z /\ R (Its z) H1
theorem pi_signs {l:Expr} {tl:TE} (hl:PE X l tl):PI X tg l (iSigns tl):=by
  intro pins s σ H R I h
  refine thn (hl pins s σ H _ I h) fun v s1 ⟨x,H1,I1,r1,z,e,q⟩ => ?_
  subst e
  obtain ⟨t,rfl⟩:=r1
  refine wpAny_pyIter_strU ?_
  refine ⟨s1.heap.objs.size,[s1.heap.objs.size],_,_,H1,rfl,I1.kept (t':=s1.toks) fun b o e => Heap.get?_push_of_some _ e,turn_signs _ z t (strIterType z) ?_,⟨_,Heap.get?_push_size _ rfl,rfl,rfl⟩,fun b hb => ?_,q⟩
  . unfold strIterType
    split
    . exact .inl rfl
    . exact .inr rfl
  . obtain rfl:b = s1.heap.objs.size:=by simpa using hb
    exact I1.fpOk (Nat.le_refl _) (I1.hok.fresh (Nat.le_refl _))
noncomputable def rInTx:R2:=fun x y H Q => ∃ (c:Nat) (z:Str),x = .str ⟨#[c]⟩ /\ y = .str z /\ Q (.bl (decide (c ∈ z.cps.toList))) H
theorem op_inTx:OpR X (compareOp .In) rInTx:=by
  intro pins s σ H x y v u Q I rx ry h
  obtain ⟨c,z,rfl,rfl,q⟩:=h
  obtain ⟨t,rfl⟩:=rx
  obtain ⟨t',rfl⟩:=ry
  refine P.in_str ⟨.bl _,H,I,rfl,?_⟩
  rw [StrLaws.found_one]
  exact q
noncomputable def rAllB (K:PySem.W.Frag):List V -> Hp -> VK -> Prop:=fun vs H Q => ∃ (p:Addr) (bs:List Bool),vs = [.ref p] /\ SqL K H p (bs.map V.bl) /\ Q (.bl (bs.all id)) H
theorem all_range:∀ (bs:List Bool),(List.range bs.length).all (fun i => (bs[i]?).getD true) = bs.all id:=by
  intro bs
  rw [Bool.eq_iff_iff,List.all_eq_true,List.all_eq_true]
  constructor
  . intro h x hx
    obtain ⟨i,hi,e⟩:=List.getElem_of_mem hx
    have q:=h i (List.mem_range.mpr hi)
    rw [List.getElem?_eq_getElem hi,e] at q
    exact q
  . intro h i hi
    have hi:=List.mem_range.mp hi
    have q:=h bs[i] (List.getElem_mem hi)
    rw [List.getElem?_eq_getElem hi]
    exact q
theorem c_allB (hc:X.calm = true):CallR X (.builtin "all") (rAllB X.K):=by
  intro pins s σ H xs us Q I r h
  obtain ⟨p,bs,rfl,hp,q⟩:=h
  obtain ⟨u,rfl,rx⟩:=r.one
  cases rx
  obtain ⟨its,rl,ht,hz⟩:=I.list hp
  have hlt:p < s.heap.objs.size:=by
    obtain ⟨_,e,_⟩:=ht.isList
    exact Heap.lt_size e
  have hlen:=rl.length
  rw [List.length_map] at hlen
  refine call_all_walk (wpAny_pyIter_list ht.isList ?_)
  refine ⟨s.heap.objs.size,[s.heap.objs.size,p],[s.heap.objs.size],its.toArray.size,_,_,fun i => (bs[i]?).getD true,rfl,Walks.list (A:=X.A.in1) (I.ok.hd hc) _ p (Nat.ne_of_lt hlt) its.toArray,⟨⟨_,Heap.get?_push_size _ rfl,rfl,rfl⟩,ht.isList.at fun o e => Heap.get?_push_of_some _ e⟩,?_,fun h' tk hk => ?_⟩
  . intro i v s' Q' E' hv hq
    have hv:its[i]? = some v:=by simpa using hv
    have hi:i < bs.length:=by
      have:=(List.getElem?_eq_some_iff.mp hv).1
      omega
    obtain ⟨u,e1,r1⟩:=rl.get (i:=i) (x:=.bl bs[i]) (by simp [hi])
    rw [hv] at e1
    cases e1
    obtain rfl:v = Value.bool bs[i]:=r1
    refine wpAny_truthy_bool ?_
    have hq:Q' ((bs[i]?).getD true) s':=hq
    rw [List.getElem?_eq_getElem hi] at hq
    exact hq
  . refine ⟨.bl _,H,I.kept (t':=tk) fun b o e => hk b o (fun z => ?_) (Heap.get?_push_of_some _ e),?_,q⟩
    . exact absurd (Heap.lt_size e) (by rw [List.mem_singleton.mp z]; exact Nat.lt_irrefl _)
    . show Value.bool _ = Value.bool _
      rw [List.size_toArray,← hlen,all_range]
end
section
variable {te:TE} {Q:VK} {H:Hp} {σ caps:St} {wi:TI} {tc:TT} {K:PySem.W.Frag}
theorem r_iSigns {tl:TE} {R:It -> Hp -> Prop} (k:tl σ H fun x H1 => ∃ z,x = .str z /\ R (Its z) H1):iSigns tl σ H R:=k
theorem r_compS {z:Str} (hn:z.length <= 1000) (Pv:Addr -> Nat -> List V -> Hp -> Prop) (h0:∀ acc,H acc = none -> Pv acc 0 [] (upd H acc (.lst [])))
    (hs:∀ acc i ys H1 c,H acc = none -> z.cps[i]? = some c -> ys.length = i -> H1 acc = some (.lst ys) -> Pv acc i ys H1 -> te (some (.str ⟨#[c]⟩) :: caps) H1 (cNext z.length acc (Pv acc) ys i))
    (hd:∀ acc ys H1,H acc = none -> H1 acc = some (.lst ys) -> ys.length = z.length -> Pv acc z.length ys H1 -> Q (.ref acc) H1):compK te none (gName 0) (List.replicate 1 none) caps Q (Its z) H:=by
  intro acc hacc
  refine ⟨cW z.length acc (Pv acc),⟨z.length,by simp,Nat.zero_le _,rfl,upd_same,h0 acc hacc⟩,?_⟩
  rintro i m ys H1 ⟨rfl,hi,hl,ha,p⟩
  refine ⟨ha,?_⟩
  by_cases hlt:i < z.length
  . refine .inr ⟨small1000 (by omega),hlt,fun us x H' hu y => ?_⟩
    obtain ⟨e,c,ec,y⟩:=y
    subst e y
    obtain ⟨o,rfl⟩:=len1 hu
    exact ⟨⟨[some (.str ⟨#[c]⟩)],rfl,rfl⟩,hs acc i ys _ c hacc ec hl ha p⟩
  . have e:i = z.length:=by omega
    subst e
    exact .inl ⟨Nat.le_refl _,hd acc ys H1 hacc ha hl p⟩
theorem r_inTx {c:Nat} {z:Str} (k:Q (.bl (decide (c ∈ z.cps.toList))) H):rInTx (.str ⟨#[c]⟩) (.str z) H Q:=⟨c,z,rfl,rfl,k⟩
theorem r_allB {p:Addr} {bs:List Bool} (h:H p = some (.lst (bs.map V.bl))) (k:Q (.bl (bs.all id)) H):rAllB K [.ref p] H Q:=⟨p,bs,rfl,SqL.of h,k⟩
theorem r_split {z y:Str} (hy:(y.length == 0) = false) (hz:z.length <= 1000000) (k:∀ l,H l = none -> Q (.ref l) (upd H l (.lst ((Txt.split z y).map V.str)))):rSplit (.str z) [.str y] H Q:=⟨z,y,rfl,rfl,hy,hz,k⟩
end
section
variable {r r':R2} {ta tb tc:TE} {x y:V} {σ:St} {H:Hp} {Q:VK} {c:Bool}
noncomputable def chnD (r':R2) (y:V) (Q:VK):VK:=fun w' H4 => r' y w' H4 Q
noncomputable def chnC (r':R2) (tc:TE) (y:V) (σ:St) (Q:VK):VK:=fun z H3 => ∃ k,z = .bl k /\ (if k = true then tc σ H3 (chnD r' y Q) else Q (.bl false) H3)
noncomputable def chnB (r r':R2) (tc:TE) (x:V) (σ:St) (Q:VK):VK:=fun y H2 => r x y H2 (chnC r' tc y σ Q)
noncomputable def chnA (r r':R2) (tb tc:TE) (σ:St) (Q:VK):VK:=fun x H1 => tb σ H1 (chnB r r' tc x σ Q)
theorem r_chain (k:ta σ H (chnA r r' tb tc σ Q)):tChain r r' ta tb tc σ H Q:=k
theorem r_chnA (k:tb σ H (chnB r r' tc x σ Q)):chnA r r' tb tc σ Q x H:=k
theorem r_chnB (k:r x y H (chnC r' tc y σ Q)):chnB r r' tc x σ Q y H:=k
theorem r_chnC (k:if c = true then tc σ H (chnD r' y Q) else Q (.bl false) H):chnC r' tc y σ Q (.bl c) H:=⟨c,rfl,k⟩
theorem r_chnD (k:r' x y H Q):chnD r' x Q y H:=k
end
section
variable {K:PySem.W.Frag} {H H':Hp}
noncomputable def NS (K:PySem.W.Frag) (H:Hp) (x:V):Prop:=∃ t,TyOf K H x t /\ PySem.W.kitOne K t (.type "str") = some false
theorem NS.int (i:Int):NS K H (.int i):=⟨_,.int i,kit_int_str⟩
theorem NS.non:NS K H .non:=⟨_,.non,kit_NoneType_str⟩
theorem NS.lst {p:Addr} {xs:List V} (h:H p = some (.lst xs)):NS K H (.ref p):=⟨_,.lst h,kit_list_str⟩
end
noncomputable def pst:List Nat -> Nat -> Nat -> Bool
  | [],k,n => decide (k <= 4) && (decide (1 <= n) && decide (n <= 8))
  | c :: r,k,n => if c = 46 then (decide (1 <= n) && decide (n <= 8)) && pst r (k + 1) 0 else (decide (97 <= c) && decide (c < 123)) && pst r k (n + 1)
noncomputable def postB (z:Str):Bool:=pst z.cps.toList 1 0
noncomputable def partB (z:Str):Bool:=(decide (1 <= z.length) && decide (z.length <= 8)) && z.cps.toList.all fun c => decide (97 <= c) && decide (c < 123)
theorem pst_part:∀ (l:List Nat) (r:List Nat) (k n:Nat),46 ∉ l -> pst (l ++ r) k n = ((l.all fun c => decide (97 <= c) && decide (c < 123)) && pst r k (n + l.length))
  | [],r,k,n,_ => by simp
  | c :: l,r,k,n,h => by
    have h1:c ≠ 46:=fun e => h (by simp [e])
    have h2:46 ∉ l:=fun e => h (by simp [e])
    show (if c = 46 then _ else _) = _
    rw [if_neg h1]
    show ((decide (97 <= c) && decide (c < 123)) && pst (l ++ r) k (n + 1)) = _
    rw [pst_part l r k (n + 1) h2,List.all_cons,List.length_cons,show n + 1 + l.length = n + (l.length + 1) by omega]
    simp only [Bool.and_assoc]
theorem join_cps1 (x:Str):(Str.join ⟨#[46]⟩ [x]).cps.toList = x.cps.toList:=rfl
theorem join_cps2 (x y:Str) (r:List Str):(Str.join ⟨#[46]⟩ (x :: y :: r)).cps.toList = x.cps.toList ++ 46 :: (Str.join ⟨#[46]⟩ (y :: r)).cps.toList:=by
  show (((x.cps ++ #[46]) ++ (Str.join ⟨#[46]⟩ (y :: r)).cps):Array Nat).toList = _
  simp
theorem len_cps (z:Str):z.length = z.cps.toList.length:=by unfold Str.length; simp
theorem pst_join:∀ (ps:List Str) (x:Str) (k:Nat),(∀ p ∈ x :: ps,46 ∉ p.cps.toList) -> pst (Str.join ⟨#[46]⟩ (x :: ps)).cps.toList k 0 = (decide (k + ps.length <= 4) && (x :: ps).all partB)
  | [],x,k,h => by
    rw [join_cps1]
    have q:=pst_part x.cps.toList [] k 0 (h x (by simp))
    rw [List.append_nil] at q
    rw [q,Nat.zero_add,← len_cps]
    show (_ && (decide (k <= 4) && _)) = _
    simp only [List.all_cons,List.all_nil,Bool.and_true,partB,List.length_nil,Nat.add_zero]
    cases decide (k <= 4) <;> cases (decide (1 <= x.length) && decide (x.length <= 8)) <;> cases (x.cps.toList.all fun c => decide (97 <= c) && decide (c < 123)) <;> rfl
  | y :: r,x,k,h => by
    have ih:=pst_join r y (k + 1) fun p hp => h p (List.mem_cons_of_mem _ hp)
    rw [join_cps2,pst_part _ _ k 0 (h x (by simp))]
    show (_ && (if 46 = 46 then _ else _)) = _
    rw [if_pos rfl,ih,Nat.zero_add,← len_cps,List.all_cons (a:=x),List.length_cons]
    show (_ && (_ && (decide (k + 1 + r.length <= 4) && _))) = (decide (k + (r.length + 1) <= 4) && (((_ && _) && _) && _))
    rw [show k + 1 + r.length = k + (r.length + 1) by omega]
    cases decide (k + (r.length + 1) <= 4) <;> cases decide (1 <= x.length) <;> cases decide (x.length <= 8) <;> cases (x.cps.toList.all fun c => decide (97 <= c) && decide (c < 123)) <;> cases (y :: r).all partB <;> rfl
theorem post_split (z:Str):postB z = (decide ((Txt.split z ⟨#[46]⟩).length <= 4) && (Txt.split z ⟨#[46]⟩).all partB):=by
  have h1:=StrLaws.join_split z ⟨#[46]⟩
  have h2:=StrLaws.split_free z 46
  have h3:=split_pos z ⟨#[46]⟩
  unfold postB
  generalize hs:Txt.split z ⟨#[46]⟩ = ps at h1 h2 h3 ⊢
  cases ps with
  | nil => simp at h3
  | cons x r =>
    rw [← h1,pst_join r x 1 h2,List.length_cons,show 1 + r.length = r.length + 1 by omega]
theorem sp_short {x y a:Str} (h:a ∈ Txt.split x y):a.length <= x.length:=part_short h
theorem sp_few (x y:Str):(Txt.split x y).length <= x.length + 2:=split_le x y
noncomputable def PostQ (K:PySem.W.Frag) (H:Hp) (x:V) (b:Bool):Prop:=(∃ z:Str,x = .str z /\ z.length <= 1000 /\ b = postB z) ∨ (NS K H x /\ b = false)
theorem TyOf.sm {K:PySem.W.Frag} {H H':Hp} {x:V} {t:Value} (ty:TyOf K H x t) (s:Same H H'):TyOf K H' x t:=by
  cases ty with
  | non => exact .non
  | bl x => exact .bl x
  | int i => exact .int i
  | str x => exact .str x
  | flt x => exact .flt x
  | lst e => exact .lst (s _ _ e)
  | frz e => exact .frz (s _ _ e)
  | tup e => exact .tup (s _ _ e)
  | dK e => exact .dK (s _ _ e)
  | dT e => exact .dT (s _ _ e)
  | ins e cl ha hn htk hm => exact .ins (s _ _ e) cl ha hn htk hm
theorem NS.sm {K:PySem.W.Frag} {H H':Hp} {x:V} (h:NS K H x) (s:Same H H'):NS K H' x:=let ⟨t,ty,e⟩:=h; ⟨t,TyOf.sm ty s,e⟩
theorem PostQ.sm {K:PySem.W.Frag} {H H':Hp} {x:V} {b:Bool} (h:PostQ K H x b) (s:Same H H'):PostQ K H' x b:=h.imp id fun z => ⟨z.1.sm s,z.2⟩
inductive IsRunQ (K:PySem.W.Frag) (H:Hp):V -> Bool -> Prop
  | nt {x:V} (h:NT K H x):IsRunQ K H x false
  | len {p:Addr} {xs:List V} (h:H p = some (.tup xs)) (n:xs.length ≠ 3):IsRunQ K H (.ref p) false
  | one {p:Addr} {u v t:V} (h:H p = some (.tup [u,v,t])) (hu:PostQ K H u false):IsRunQ K H (.ref p) false
  | two {p:Addr} {u v t:V} (h:H p = some (.tup [u,v,t])) (hu:PostQ K H u true) (hv:PostQ K H v false):IsRunQ K H (.ref p) false
  | same {p:Addr} {s:Str} {t:V} (h:H p = some (.tup [.str s,.str s,t])) (hu:PostQ K H (.str s) true):IsRunQ K H (.ref p) false
  | time {p:Addr} {s s':Str} {t:V} (h:H p = some (.tup [.str s,.str s',t])) (hu:PostQ K H (.str s) true) (hv:PostQ K H (.str s') true) (hn:s ≠ s') (ht:∀ H',Same H H' -> Frq K H' t false):IsRunQ K H (.ref p) false
  | run {p tp:Addr} {s s':Str} {a c:Int} (h:H p = some (.tup [.str s,.str s',.ref tp])) (hu:PostQ K H (.str s) true) (hv:PostQ K H (.str s') true) (hn:s ≠ s') (ht:H tp = some (.tup [.int a,.int c])) (hf:frV (.int a) (.int c) = true) (sa:Sm 8000 a) (sc:Sm 8000 c):IsRunQ K H (.ref p) (decide (0 < a))
theorem cps_app (a b:Str):(a ++ b).cps.toList = a.cps.toList ++ b.cps.toList:=by
  show (a.cps ++ b.cps).toList = _
  simp
theorem len_plus (a b:Str):(a ++ b).length = a.length + b.length:=by
  rw [len_cps,len_cps,len_cps,cps_app,List.length_append]
theorem IsRunQ.of3 {K:PySem.W.Frag} {H:Hp} {p:Addr} {s s':Str} {t:V} (h:H p = some (.tup [.str s,.str s',t])) (hu:PostQ K H (.str s) true) (hv:PostQ K H (.str s') true) (ht:∀ H',Same H H' -> Frq K H' t false):IsRunQ K H (.ref p) false:=by
  by_cases e:s = s'
  . subst e; exact .same h hu
  . exact .time h hu hv e ht
theorem part_facts {z:Str} (h:partB z = true):1 <= z.length /\ z.length <= 8 /\ 46 ∉ z.cps.toList:=by
  unfold partB at h
  rw [Bool.and_eq_true,Bool.and_eq_true,decide_eq_true_iff,decide_eq_true_iff,List.all_eq_true] at h
  refine ⟨h.1.1,h.1.2,fun m => ?_⟩
  exact absurd (h.2 _ m) (by decide)
theorem sum_le:∀ {cs:List Str},(∀ c ∈ cs,c.length <= 8) -> (cs.map (·.length)).sum <= 8 * cs.length
  | [],_ => Nat.le_refl _
  | c :: r,h => by
    have h1:=h c (by simp)
    have h2:=sum_le (cs:=r) fun d hd => h d (List.mem_cons_of_mem _ hd)
    rw [List.map_cons,List.sum_cons,List.length_cons]
    omega
theorem letters_mem (c:Nat):decide (c ∈ ("abcdefghijklmnopqrstuvwxyz":Str).cps.toList) = (decide (97 <= c) && decide (c < 123)):=by
  have e:("abcdefghijklmnopqrstuvwxyz":Str).cps.toList = List.range' 97 26:=by decide +kernel
  rw [e,Bool.eq_iff_iff,Bool.and_eq_true,decide_eq_true_iff,decide_eq_true_iff,decide_eq_true_iff]
  exact List.mem_range'_1
end L2
namespace L2
open PySem PySem.Spec PyProof.Rows
theorem inV_strs {s:Str} {ys:List Str}:inV (.str s) (ys.map V.str) = decide (s ∈ ys):=by
  unfold inV
  induction ys with
  | nil => simp
  | cons y r ih =>
    rw [List.map_cons,List.any_cons,ih]
    show ((y == s) || _) = _
    by_cases e:y = s
    . subst e
      simp
    . have e2:¬ s = y:=fun z => e z.symm
      simp [e,e2]
theorem flat_strs:∀ ys:List Str,(ys.map V.str).all flatV = true
  | [] => rfl
  | y :: r => by rw [List.map_cons,List.all_cons,flat_strs r]; rfl
section
variable {σ:St} {H:Hp} {Q:VK} {K:PySem.W.Frag}
theorem r_ninS {p:Addr} {ys:List Str} {s:Str} (h:H p = some (.lst (ys.map V.str))) (k:Q (.bl (!decide (s ∈ ys))) H):rIn K true (.str s) (.ref p) H Q:=⟨p,_,rfl,.inl (SqL.of h),rfl,flat_strs _,by rw [inV_strs]; exact k⟩
end
noncomputable def Lts (s:Str):Prop:=∀ c ∈ s.cps.toList,97 <= c /\ c < 123
theorem app_cps (a b:Str):(a ++ b).cps.toList = a.cps.toList ++ b.cps.toList:=by
  show (a.cps ++ b.cps).toList = _
  simp
theorem Lts.app {a b:Str} (h1:Lts a) (h2:Lts b):Lts (a ++ b):=by
  intro c hc
  rw [app_cps] at hc
  rcases List.mem_append.mp hc with h | h
  . exact h1 c h
  . exact h2 c h
theorem Lts.one {c:Nat} (h:97 <= c /\ c < 123):Lts ⟨#[c]⟩:=by
  intro d hd
  have:d = c:=by simpa using hd
  rw [this]
  exact h
theorem Lts.sub {a b:Str} (h:Lts a) (s:∀ c ∈ b.cps.toList,c ∈ a.cps.toList):Lts b:=fun c hc => h c (s c hc)
theorem Lts.of {cs:List Nat} (h:∀ c ∈ cs,97 <= c /\ c < 123):Lts ⟨cs.toArray⟩:=fun c hc => h c (by simpa using hc)
theorem lst_one (k:Key) (q:Rat):lst [(k,q)] = [(k,q)]:=rfl
noncomputable abbrev sC:Str:=Str.ofString "c"
noncomputable def n2:List TRun:=[(sA,sB,Rat.divInt 1 2),(sB,sC,Rat.divInt 1 3)]
end L2
namespace L2
open PySem PySem.Spec PyProof.Rows
inductive Rch (net:List (RunD Key)) (B:Nat -> Key -> Prop) (ps:List Key):Key -> Prop where
  | push {p:Key} (h:p ∈ ps):Rch net B ps p
  | step {p x:Key} {k:Nat} {r:RunD Key} (h:Rch net B ps p) (hr:net[k]? = some r) (j:Jn r p x) (nb:¬ B k p):Rch net B ps x
theorem Rch.sub {net:List (RunD Key)} {B:Nat -> Key -> Prop} {ps:List Key} {S:Key -> Prop} (h0:∀ p ∈ ps,S p) (hc:∀ p k r x,S p -> net[k]? = some r -> Jn r p x -> ¬ B k p -> S x) {p:Key} (h:Rch net B ps p):S p:=by
  induction h with
  | push h => exact h0 _ h
  | step _ hr j nb ih => exact hc _ _ _ _ ih hr j nb
theorem Rch.imp {net:List (RunD Key)} {B C:Nat -> Key -> Prop} {ps:List Key} (h0:∀ k p r x,net[k]? = some r -> Jn r p x -> C k p -> B k p) {p:Key} (h:Rch net B ps p):Rch net C ps p:=by
  induction h with
  | push h => exact .push h
  | step _ hr j nb ih => exact .step ih hr j fun z => nb (h0 _ _ _ _ hr j z)
section
variable {H:Hp} {Q:VK} {K:PySem.W.Frag} {σ:St} {D:Ends} {v:V}
theorem r_aug {i:Nat} {te:TE} {ti:TIp} {x:V} (h:σ[i]? = some (some x)) (k:te σ H fun y H1 => ti x y H1 fun z H2 => D.nx (σ.set i (some z)) H2):tAug i te ti D σ H:=⟨x,h,k⟩
end
noncomputable def Cld (n:List TRun) (B:Nat -> Key -> Prop) (qs:List Str) (s:Str):Prop:=∀ k r x,(kn n)[k]? = some r -> Jn r (Sum.inr s) x -> ¬ B k (Sum.inr s) -> ∃ t ∈ qs,x = Sum.inr t
theorem Cld.mono {n:List TRun} {B:Nat -> Key -> Prop} {qs qs':List Str} {s:Str} (h:Cld n B qs s) (hs:∀ x ∈ qs,x ∈ qs'):Cld n B qs' s:=fun k r x a b c => let ⟨t,ht,e⟩:=h k r x a b c; ⟨t,hs t ht,e⟩
structure Sch (n:List TRun) (B:Nat -> Key -> Prop) (ps qs:List Str):Prop where
  rch:∀ s ∈ qs,Rch (kn n) B (ps.map Sum.inr) (Sum.inr s)
  ap:∃ ap:List Str,qs = ps ++ ap /\ ap.Nodup /\ ∀ x ∈ ap,x ∈ names n /\ x ∉ ps
theorem Sch.start (n:List TRun) (B:Nat -> Key -> Prop) (ps:List Str):Sch n B ps ps:=⟨fun s hs => .push (List.mem_map_of_mem hs),[],by simp,List.nodup_nil,fun x hx => by simp at hx⟩
theorem Sch.add {n:List TRun} {B:Nat -> Key -> Prop} {ps qs:List Str} {s x:Str} {k:Nat} {r:RunD Key} (h:Sch n B ps qs) (hs:s ∈ qs) (hr:(kn n)[k]? = some r) (j:Jn r (Sum.inr s) (Sum.inr x)) (nb:¬ B k (Sum.inr s)) (hx:x ∉ qs):Sch n B ps (qs ++ [x]):=by
  obtain ⟨ap,rfl,nd,hm⟩:=h.ap
  have hxn:x ∈ names n:=by
    obtain ⟨r',e1,rfl⟩:=kn_at hr
    have hm':=List.mem_of_getElem? e1
    unfold names
    rcases j with ⟨_,e⟩ | ⟨_,e⟩
    . cases e; exact List.mem_append_right _ (List.mem_map_of_mem hm')
    . cases e; exact List.mem_append_left _ (List.mem_map_of_mem hm')
  refine ⟨fun y hy => ?_,ap ++ [x],by rw [List.append_assoc],?_,fun y hy => ?_⟩
  . rcases List.mem_append.mp hy with hy | hy
    . exact h.rch y hy
    . rw [List.mem_singleton.mp hy]
      exact .step (h.rch s hs) hr j nb
  . rw [List.nodup_append]
    refine ⟨nd,by simp,fun a ha b hb => ?_⟩
    rw [List.mem_singleton.mp hb]
    rintro rfl
    exact hx (List.mem_append_right _ ha)
  . rcases List.mem_append.mp hy with hy | hy
    . exact hm y hy
    . rw [List.mem_singleton.mp hy]
      exact ⟨hxn,fun z => hx (List.mem_append_left _ z)⟩
theorem Sch.len {n:List TRun} {B:Nat -> Key -> Prop} {ps qs:List Str} (h:Sch n B ps qs):qs.length <= ps.length + 2 * n.length:=by
  obtain ⟨ap,rfl,nd,hm⟩:=h.ap
  have:=nd_len nd (fun x hx => (hm x hx).1)
  have e:(names n).length = 2 * n.length:=by unfold names; rw [List.length_append,List.length_map,List.length_map]; omega
  rw [List.length_append]
  omega
theorem Sch.done {n:List TRun} {B:Nat -> Key -> Prop} {ps qs:List Str} (h:Sch n B ps qs) (c:∀ s ∈ qs,Cld n B qs s) (s:Str):s ∈ qs ↔ Rch (kn n) B (ps.map Sum.inr) (Sum.inr s):=by
  refine ⟨h.rch s,fun hr => ?_⟩
  have key:∀ p,Rch (kn n) B (ps.map Sum.inr) p -> ∃ t ∈ qs,p = Sum.inr t:=fun p hp => by
    refine Rch.sub (S:=fun p => ∃ t ∈ qs,p = Sum.inr t) (fun p hp => ?_) (fun p k r x ⟨t,ht,e⟩ hr j nb => ?_) hp
    . obtain ⟨t,ht,rfl⟩:=List.mem_map.mp hp
      obtain ⟨ap,rfl,_⟩:=h.ap
      exact ⟨t,List.mem_append_left _ ht,rfl⟩
    . subst e
      exact c t ht k r x hr j nb
  obtain ⟨t,ht,e⟩:=key _ hr
  cases e
  exact ht
noncomputable def KeysAre (kvs:List (Key×V)) (qs:List Str):Prop:=(∀ s:Str,(valV kvs (Sum.inr s)).isSome = decide (s ∈ qs)) /\ kvs.length <= qs.length
theorem KeysAre.add {kvs:List (Key×V)} {qs:List Str} {x:Str} {v:V} (h:KeysAre kvs qs):KeysAre (putK kvs (Sum.inr x) v) (qs ++ [x]):=by
  refine ⟨fun s => ?_,?_⟩
  . rw [valV_put]
    by_cases e:s = x
    . subst e
      rw [if_pos rfl,decide_eq_true (List.mem_append_right _ (by simp))]
      rfl
    . rw [if_neg (fun z => e (Sum.inr.inj z)),h.1 s]
      by_cases hs:s ∈ qs
      . rw [decide_eq_true hs,decide_eq_true (List.mem_append_left _ hs)]
      . rw [decide_eq_false hs,decide_eq_false (fun z => (List.mem_append.mp z).elim hs fun y => e (List.mem_singleton.mp y))]
  . have:=length_putK kvs (Sum.inr x) v
    have:=h.2
    rw [List.length_append]
    simp
    omega
theorem KeysAre.merge:∀ {ps qs:List Str} {kvs:List (Key×V)},KeysAre kvs qs -> KeysAre (mergeK kvs (ps.map fun p => (Sum.inr p,.non))) (qs ++ ps)
  | [],qs,kvs,h => by simpa [mergeK] using h
  | p :: ps,qs,kvs,h => by
    have:=KeysAre.merge (ps:=ps) (h.add (x:=p) (v:=.non))
    simpa [mergeK] using this
theorem KeysAre.nil:KeysAre [] []:=⟨fun s => by rw [valV_nil]; simp,Nat.le_refl _⟩
theorem pickS' {nm:List Str} {i:Int} (h0:0 <= i) (h1:i < nm.length):∃ s,s ∈ nm /\ atI (nm.map V.str) i = some (.str s):=by
  obtain ⟨z,hz,e⟩:=pickV (xs:=nm.map V.str) h0 (by rw [List.length_map]; exact h1)
  obtain ⟨s,hs,rfl⟩:=List.mem_map.mp hz
  exact ⟨s,hs,e⟩
end L2
namespace L2
open PySem PySem.Spec PyProof.Rows
noncomputable def gK {α:Type} (n:Nat) (us ws:List α):List α:=if us.length = n /\ ws.length = 1 then us ++ ws else []
structure DfK (K:PySem.W.Frag) (mg:Str -> Option Value) (x:Str) (st:Stmt) (ps:List Str) (dvs:List V) (n:Nat) (ks:List Str):Prop where
  ex:∃ (f:Addr) (fd:FuncData),(∃ (oc:Value) (od:Option Addr) (dV kV doc pm:Value) (an:Option Addr) (cdv ct:Value) (osl:Array (Option Value)),
    fd = PySem.W.fnOf x x (defArgs st) (defBody st) (defScope st) dV kV doc pm an cdv ct /\ K.lookup f = some ⟨oc,od,.func fd,osl⟩ /\ PySem.W.codeIn K cdv x = true) /\ PySem.W.keepIn K (.ref f) = true /\ mg x = some (.ref f) /\ Binds K fd ps [] /\ (∃ ds,Vals dvs ds /\ Binds K fd ps ds) /\ KBinds K fd ps ks (gK n) (gK n)
structure OkfK (P:Program) (w:World) (K:PySem.W.Frag) (mg:Str -> Option Value) (base:Heap) (k:Nat) (x:Str) (ps:List Str) (dvs:List V) (n:Nat) (ks:List Str) (sp:Sp):Prop where
  ex:∃ (f:Addr) (fd:FuncData),mg x = some (.ref f) /\ PySem.W.keepIn K (.ref f) = true /\ Binds K fd ps [] /\ (∃ ds,Vals dvs ds /\ Binds K fd ps ds) /\ KBinds K fd ps ks (gK n) (gK n) /\ FnOk P w K mg base CX0 k f fd ps sp
theorem OkfK.mono {P:Program} {w:World} {K:PySem.W.Frag} {mg:Str -> Option Value} {base:Heap} {j k:Nat} {x:Str} {ps:List Str} {dvs:List V} {n:Nat} {ks:List Str} {sp:Sp} (o:OkfK P w K mg base j x ps dvs n ks sp) (h:j <= k):OkfK P w K mg base k x ps dvs n ks sp :=
  let ⟨f,fd,a,b,c,e,z,d⟩:=o.ex; ⟨f,fd,a,b,c,e,z,d.mono h⟩
theorem OkfK.d {P:Program} {w:World} {K:PySem.W.Frag} {mg:Str -> Option Value} {base:Heap} {k:Nat} {x:Str} {ps:List Str} {dvs:List V} {n:Nat} {ks:List Str} {sp:Sp} (o:OkfK P w K mg base k x ps dvs n ks sp):OkfD P w K mg base k x ps dvs sp :=
  let ⟨f,fd,a,b,c,e,_,d⟩:=o.ex; ⟨f,fd,a,b,c,e,d⟩
theorem OkfK.of {P:Program} {w:World} {K:PySem.W.Frag} {mg:Str -> Option Value} {base:Heap} {k:Nat} {x:Str} {st:Stmt} {N ps:List Str} {dvs:List V} {n:Nat} {ks:List Str} {sp:Sp} (d:DfK K mg x st ps dvs n ks) (S:FnScope N ps (defScope st)) (len:∀ vs H Q E,sp vs H Q E -> vs.length = ps.length)
    (hbody:∀ (f:Addr) (cdv:Value) (A:Around) (outer:List Env) (s:Shared) (H:Hp) (vs:List V) (Q:VK) (E:XK),Room k (A.deeper (envOfC x (defScope st) s.heap.objs.size f cdv)) -> sp vs H Q E ->
      ∃ t,PSs (cxOf CX0 P w K mg base N x (defScope st) f cdv A outer s H E).nox (defBody st) t /\ t { nx:=fun _ H' => Q .non H',rt:=Q } (start N vs) H):OkfK P w K mg base (k + 1) x ps dvs n ks sp:=by
  obtain ⟨f,fd,⟨oc,od,dV,kV,doc,pm,an,cdv,ct,osl,rfl,lk,hcd⟩,kp,a,b,b2,b3⟩:=d.ex
  refine ⟨f,_,a,kp,b,b2,b3,fn_of lk hcd S len fun A outer s H vs Q E hr hsp => ?_⟩
  obtain ⟨t,h,q⟩:=hbody f cdv A outer s H vs Q E hr hsp
  exact ⟨t,h.nox,q⟩
section
variable {X:Cx} {k n:Nat} {x:Str} {ps ks:List Str} {dvs:List V} {sp:Sp} {p pos:Pos} {e:Expr} {es:List Expr} {kws:List Keyword} {t tk:TA}
theorem r_callK {σ:St} {H:Hp} {Q:VK} {E:XK} {gV:List V -> List V -> List V} {ta tb:TA} (k:ta σ H fun vs H1 => tb σ H1 fun zs H2 => sp (gV vs zs) H2 Q E):tCallK sp gV E ta tb σ H Q:=k
end
theorem r_cut {s:TS} {D:Ends} {σ:St} {H:Hp} (J:St -> Hp -> Prop) (hJ:∀ σ H,J σ H -> D.nx σ H) (k:∀ NX:St -> Hp -> Prop,(∀ σ H,J σ H -> NX σ H) -> s ⟨NX,D.rt,D.bk,D.ct⟩ σ H):s D σ H:=k D.nx hJ
theorem LQ.kp {β:Type} {R:Hp -> V -> β -> Prop} {H H':Hp} {l p:Addr} {ds:List β} {n:Int} (h:LQ R H l ds) (hR:∀ {H H' v b},R H v b -> TK H H' -> R H' v b) (st:St3 H p n) (k:Kp p H H') (hne:l ≠ p):LQ R H' l ds :=
  let ⟨vs,a,b⟩:=h; ⟨vs,k _ _ hne a,Pd.imp b fun v b f => hR f (st.tk k)⟩
section
variable {σ:St} {H:Hp} {Q:VK} {K:PySem.W.Frag}
end
theorem sz_of {q:Rat} {m n:Nat} (h1:q.num.natAbs < 2 ^ m) (h2:q.den < 2 ^ m) (h:m <= n):Sz n q:=Sz.mono (m:=m) ⟨h1,h2⟩ h
theorem TOk.sz {q:Rat} (h:TOk q):Sz 3900 q:=sz_of (m:=64) (Nat.lt_of_le_of_lt h.n (by decide)) (Nat.lt_of_le_of_lt h.d (by decide)) (by decide)
noncomputable def n3:List TRun:=[(sA,sB,Rat.divInt 1 2),(sB,sC,Rat.divInt 1 1)]
noncomputable def ts3:List (Key×Rat):=[(Sum.inl 0,Rat.divInt 1 2),(Sum.inl 1,Rat.divInt 1 1)]
noncomputable def tk3:Nat -> Option Rat:=fun k => aget (lst ts3) (Sum.inl (k:Int))
end L2
namespace L2
open PySem PySem.Spec PyProof.Rows
section
variable {X:Cx}
end
section
variable {H:Hp} {Q:VK} {u v:V} {a b:Option Rat}
end
inductive Pth (net:List (RunD Key)) (a:Key):Key -> Rat -> Prop
  | nil:Pth net a a 0
  | snoc {q p:Key} {s:Rat} {k:Nat} {r:RunD Key}:Pth net a q s -> net[k]? = some r -> Jn r q p -> Pth net a p (s + r.2.2)
theorem Pth.trans {net:List (RunD Key)} {a b c:Key} {s t:Rat} (h:Pth net a b s) (g:Pth net b c t):Pth net a c (s + t):=by
  induction g with
  | nil => rw [Rat.add_zero]; exact h
  | snoc g h1 h2 ih =>
    rw [← Rat.add_assoc]
    exact .snoc ih h1 h2
theorem Pth.one {net:List (RunD Key)} {k:Nat} {r:RunD Key} {q p:Key} (h1:net[k]? = some r) (h2:Jn r q p):Pth net q p r.2.2:=by
  have:=Pth.snoc (.nil (a:=q)) h1 h2
  rwa [Rat.zero_add] at this
theorem Pth.symm {net:List (RunD Key)} {a b:Key} {s:Rat} (h:Pth net a b s):Pth net b a s:=by
  induction h with
  | nil => exact .nil
  | snoc h h1 h2 ih =>
    rw [Rat.add_comm]
    exact (Pth.one h1 h2.symm).trans ih
theorem Pth.nn {net:List (RunD Key)} {a b:Key} {s:Rat} (hp:∀ r ∈ net,0 < r.2.2) (h:Pth net a b s):0 <= s:=by
  induction h with
  | nil => exact Rat.le_refl
  | snoc h h1 h2 ih => exact Rat.add_nonneg ih (Rat.le_of_lt (hp _ (List.mem_of_getElem? h1)))
section
variable {net:List (RunD Key)} {a b:Key} {m:Rat} {tk:Nat -> Option Rat} {f:Key -> Option Rat}
theorem arr_pth {p:Key} {t:Rat} (h:Arr net (aget (lst [(a,m)])) tk p t):∃ s,Pth net a p s /\ t = m + s:=by
  induction h with
  | push e =>
    have:=lst_mem (aget_mem e)
    cases List.mem_singleton.mp this
    exact ⟨0,.nil,by rw [Rat.add_zero]⟩
  | run _ h1 h2 _ ih =>
    obtain ⟨s,g,rfl⟩:=ih
    exact ⟨_,.snoc g h1 h2,by rw [Rat.add_assoc]⟩
theorem pth_arr (h0:∀ k,tk k = none) {p:Key} {s:Rat} (h:Pth net a p s):Arr net (aget (lst [(a,m)])) tk p (m + s):=by
  induction h with
  | nil =>
    rw [Rat.add_zero]
    exact .push (by rw [lst_one]; simp [aget])
  | snoc _ h1 h2 ih =>
    rw [← Rat.add_assoc]
    exact .run ih h1 h2 fun u e => by rw [h0] at e; cases e
structure Dst (net:List (RunD Key)) (a:Key) (m:Rat) (f:Key -> Option Rat):Prop where
  is:∀ p t,f p = some t -> ∃ s,Pth net a p s /\ t = m + s
  le:∀ p s,Pth net a p s -> ∃ u,f p = some u /\ u <= m + s
theorem Falls.dst (h0:∀ k,tk k = none) (h:Falls net (aget (lst [(a,m)])) tk f):Dst net a m f:=⟨fun p t e => arr_pth (h.arr p t e),fun p s g => h.le p _ (pth_arr h0 g)⟩
theorem Dst.uniq {f g:Key -> Option Rat} {k:Rat} (h:Dst net a m f) (h':Dst net a k g) (p:Key):(f p).map (· - m) = (g p).map (· - k):=by
  have key:∀ {f g:Key -> Option Rat} {m k:Rat},Dst net a m f -> Dst net a k g -> ∀ t,f p = some t -> ∃ u,g p = some u /\ u - k <= t - m:=fun {f g m k} h h' t e => by
    obtain ⟨s,g1,rfl⟩:=h.is p t e
    obtain ⟨u,e2,l⟩:=h'.le p s g1
    refine ⟨u,e2,?_⟩
    have e3:m + s - m = s:=by rw [Rat.add_comm,Rat.add_sub_cancel]
    have e4:k + s - k = s:=by rw [Rat.add_comm,Rat.add_sub_cancel]
    rw [e3]
    have:=Rat.add_le_add_right (c:=-k) |>.mpr l
    rw [← Rat.sub_eq_add_neg,← Rat.sub_eq_add_neg,e4] at this
    exact this
  cases e:f p with
  | none =>
    cases e2:g p with
    | none => rfl
    | some u =>
      obtain ⟨_,z,_⟩:=key h' h u e2
      rw [e] at z
      cases z
  | some t =>
    obtain ⟨u,e2,l⟩:=key h h' t e
    obtain ⟨t',e3,l'⟩:=key h' h u e2
    rw [e] at e3
    cases e3
    rw [e2]
    exact congrArg some (Rat.le_antisymm l' l)
theorem Dst.symm {f g:Key -> Option Rat} (h:Dst net a 0 f) (h':Dst net b 0 g):f b = g a:=by
  have key:∀ {f g:Key -> Option Rat} {a b:Key},Dst net a 0 f -> Dst net b 0 g -> ∀ t,f b = some t -> ∃ u,g a = some u /\ u <= t:=fun {f g a b} h h' t e => by
    obtain ⟨s,g1,rfl⟩:=h.is b t e
    exact h'.le a s g1.symm
  cases e:f b with
  | none =>
    cases e2:g a with
    | none => rfl
    | some u =>
      obtain ⟨_,z,_⟩:=key h' h u e2
      rw [e] at z
      cases z
  | some t =>
    obtain ⟨u,e2,l⟩:=key h h' t e
    obtain ⟨t',e3,l'⟩:=key h' h u e2
    rw [e] at e3
    cases e3
    rw [e2,Rat.le_antisymm l' l]
theorem Dst.self {f:Key -> Option Rat} (hp:∀ r ∈ net,0 < r.2.2) (h:Dst net a 0 f):f a = some 0:=by
  obtain ⟨u,e,l⟩:=h.le a 0 .nil
  obtain ⟨s,g,rfl⟩:=h.is a u e
  have:=g.nn hp
  rw [Rat.zero_add] at e l
  rw [Rat.add_zero] at l
  rw [e,Rat.le_antisymm l this]
end
open Classical in
noncomputable def dst (n:List TRun) (a:Key) (m:Rat):Key -> Option Rat:=if h:∃ f,Falls (kn n) (aget (lst [(a,m)])) (fun _ => none) f then Classical.choose h else fun _ => none
noncomputable def gd (n:List TRun) (s z:Str):Option Rat:=if z ∈ names n then dst n (Sum.inr s) (Rat.divInt 0 1) (Sum.inr z) else none
noncomputable def prs (ys:List Str):List (Str×Str):=ys.flatMap fun y => ys.map fun z => (y,z)
noncomputable def ApQ (n1 n2:List TRun) (H:Hp) (v:V) (x:Str×Str):Prop:=∃ p va vb,v = .ref p /\ H p = some (.tup [.str x.1,.str x.2,va,vb]) /\ OptQ H va (gd n1 x.1 x.2) /\ OptQ H vb (gd n2 x.1 x.2)
theorem ApQ.tk {n1 n2:List TRun} {H H':Hp} {v:V} {x:Str×Str} (h:ApQ n1 n2 H v x) (t:TK H H'):ApQ n1 n2 H' v x:=let ⟨p,a,b,e,h1,h2,h3⟩:=h; ⟨p,a,b,e,t _ _ h1,h2.tk t,h3.tk t⟩
noncomputable def ApO (n1 n2:List TRun) (H:Hp) (v:V):Option (Str×Str) -> Prop
  | none => v = .non
  | some x => ApQ n1 n2 H v x
theorem Pd.cut {β:Type} {R:V -> β -> Prop} {xs:List V} {ds:List β} (h:Paired R xs ds) (a b:Nat):Paired R ((xs.drop a).take b) ((ds.drop a).take b):=by
  have hd:∀ (a:Nat) {xs:List V} {ds:List β},Paired R xs ds -> Paired R (xs.drop a) (ds.drop a):=fun a => by
    induction a with
    | zero => exact fun h => h
    | succ a ih =>
      intro xs ds h
      cases h with
      | nil => exact .nil
      | cons r t => exact ih t
  have ht:∀ (b:Nat) {xs:List V} {ds:List β},Paired R xs ds -> Paired R (xs.take b) (ds.take b):=fun b => by
    induction b with
    | zero => exact fun h => .nil
    | succ b ih =>
      intro xs ds h
      cases h with
      | nil => exact .nil
      | cons r t => exact .cons r (ih t)
  exact ht b (hd a h)
theorem Pd.app {β:Type} {R:V -> β -> Prop}:∀ {xs ys:List V} {ds es:List β},Paired R xs ds -> Paired R ys es -> Paired R (xs ++ ys) (ds ++ es)
  | _,_,_,_,.nil,h => h
  | _,_,_,_,.cons r t,h => .cons r (Pd.app t h)
theorem ApO.tk {n1 n2:List TRun} {H H':Hp} {v:V} {o:Option (Str×Str)} (h:ApO n1 n2 H v o) (t:TK H H'):ApO n1 n2 H' v o:=by
  cases o with
  | none => exact h
  | some x => exact ApQ.tk h t
structure NetOk (H:Hp) (l:Addr) (n:List TRun) (U:List Str):Prop where
  lq:LQ RunQ H l (kn n)
  len:n.length <= 24
  tok:∀ r ∈ n,TOk r.2.2 /\ 0 < r.2.2
  ul:U.length <= 10
  un:∀ x ∈ names n,x ∈ U
theorem NetOk.sm {H H':Hp} {l:Addr} {n:List TRun} {U:List Str} (h:NetOk H l n U) (s:Same H H'):NetOk H' l n U:=⟨h.lq.sm RunQ.tk s,h.len,h.tok,h.ul,h.un⟩
end L2
namespace L2
open PySem PySem.Spec PyProof.Rows
section
variable {te:TE} {Q:VK} {H:Hp} {caps:St} {K:PySem.W.Frag}
end
noncomputable def ItrD (lo:Int) (n:Nat):It:=⟨fun i _ => i < n,fun i H x H' => H' = H /\ x = .int (lo - i),fun i _ => n <= i⟩
section
variable {X:Cx} {tg:Expr}
noncomputable def iRngD (ta:TA):TI:=fun σ H R => ta σ H fun vs H1 => ∃ i j:Int,vs = [.int i,.int j,.int (-1)] /\ (-(2 ^ 62) <= i /\ i < 2 ^ 62 /\ -(2 ^ 62) <= j /\ j < 2 ^ 62) /\ R (ItrD i (i - j).toNat) H1
theorem r_rngD {σ:St} {H:Hp} {R:It -> Hp -> Prop} {ta:TA} (k:ta σ H fun vs H1 => ∃ i j:Int,vs = [.int i,.int j,.int (-1)] /\ (-(2 ^ 62) <= i /\ i < 2 ^ 62 /\ -(2 ^ 62) <= j /\ j < 2 ^ 62) /\ R (ItrD i (i - j).toNat) H1):iRngD ta σ H R:=k
end
section
variable {σ:St} {H:Hp} {D:Ends} {K:PySem.W.Frag}
end
noncomputable def rngV (n:Nat):List V:=(List.range n).map fun (i:Nat) => V.int (i:Int)
noncomputable def tLrng (ta:TA):TE:=fun σ H Q => ta σ H fun vs H1 => ∃ n:Nat,vs = [.int n] /\ n <= 1000 /\ ∀ p,H1 p = none -> Q (.ref p) (upd H1 p (.lst (rngV n)))
theorem r_lrng {σ:St} {H:Hp} {Q:VK} {ta:TA} (k:ta σ H fun vs H1 => ∃ n:Nat,vs = [.int n] /\ n <= 1000 /\ ∀ p,H1 p = none -> Q (.ref p) (upd H1 p (.lst (rngV n)))):tLrng ta σ H Q:=k
section
variable {X:Cx}
end
section
variable {H:Hp} {Q:VK}
end
end L2
namespace L2
open PySem PySem.Spec PyProof.Rows
section
variable {net:List (RunD Key)} {push:Key -> Option Rat} {tk:Nat -> Option Rat}
end
noncomputable def but (ks:List Nat) (j:Nat):List Nat:=ks.filter fun k => decide (k ≠ j)
noncomputable def n4:List TRun:=[(sA,sB,Rat.divInt 1 1),(sB,sA,Rat.divInt 1 1)]
theorem r_slSe {H:Hp} {Q:VK} {z:Str} {lo hi:Option Int} (hz:z.length <= 100000) (k:Q (.str (Txt.slice z lo hi)) H):rSlS (.str z) lo hi H Q:=⟨z,rfl,by rw [sizeLine_eq]; omega,k⟩
section
variable {X:Cx} {scope:Scope} {caps:List (Str×Addr)} {N:List Str} {C:Addr} {s0:Shared} {H0:Hp} {ex:List Addr}
end
section
variable {te:TE} {Q:VK} {H:Hp} {caps:St} {K:PySem.W.Frag} {σ:St}
noncomputable def ittK (K:PySem.W.Frag) (R:It -> Hp -> Prop):VK:=fun x H1 => ∃ a,x = .ref a /\ (∃ xs,SqT K H1 a xs) /\ R (Itt K a) H1
theorem r_iTup {tl:TE} {R:It -> Hp -> Prop} (k:tl σ H (ittK K R)):iTup K tl σ H R:=k
theorem r_tupIt {a:Addr} {xs:List V} {R:It -> Hp -> Prop} (h:SqT K H a xs) (k:R (Itt K a) H):ittK K R (.ref a) H:=⟨a,rfl,⟨xs,h⟩,k⟩
theorem r_compT {a:Addr} {xs:List V} (hn:xs.length <= 1000) (Pv:Addr -> Nat -> List V -> Hp -> Prop) (h0:∀ acc,H acc = none -> Pv acc 0 [] (upd H acc (.lst []))) (hl':∀ acc i ys H1,H acc = none -> i <= xs.length -> Pv acc i ys H1 -> SqT K H1 a xs)
    (hs:∀ acc i ys H1 x,H acc = none -> xs[i]? = some x -> ys.length = i -> H1 acc = some (.lst ys) -> Pv acc i ys H1 -> te (some x :: caps) H1 (cNext xs.length acc (Pv acc) ys i))
    (hd:∀ acc ys H1,H acc = none -> H1 acc = some (.lst ys) -> ys.length = xs.length -> Pv acc xs.length ys H1 -> Q (.ref acc) H1):compK te none (gName 0) (List.replicate 1 none) caps Q (Itt K a) H:=by
  intro acc hacc
  refine ⟨cW xs.length acc (Pv acc),⟨xs.length,by simp,Nat.zero_le _,rfl,upd_same,h0 acc hacc⟩,?_⟩
  rintro i m ys H1 ⟨rfl,hi,hl,ha,p⟩
  have q:=hl' acc i ys H1 hacc hi p
  refine ⟨ha,?_⟩
  by_cases hlt:i < xs.length
  . refine .inr ⟨small1000 (by omega),⟨xs,xs[i],q,by simp [hlt]⟩,fun us x H' hu y => ?_⟩
    obtain ⟨e,y⟩:=y
    subst e
    obtain ⟨o,rfl⟩:=len1 hu
    exact ⟨⟨[some x],rfl,rfl⟩,hs acc i ys _ x hacc (y xs q) hl ha p⟩
  . have e:i = xs.length:=by omega
    subst e
    exact .inl ⟨⟨xs,q,Nat.le_refl _⟩,hd acc ys H1 hacc ha hl p⟩
end
theorem Pd.set {β:Type} {R:V -> β -> Prop}:∀ {xs:List V} {ds:List β} (_:Paired R xs ds) (j:Nat) {v:V} {b:β},R v b -> Paired R (xs.set j v) (ds.set j b)
  | _,_,.nil,_,_,_,_ => .nil
  | _,_,.cons r t,0,_,_,h => .cons h t
  | _,_,.cons r t,j + 1,_,_,h => .cons r (Pd.set t j h)
theorem Pd.erase {β:Type} {R:V -> β -> Prop}:∀ {xs:List V} {ds:List β} (_:Paired R xs ds) (j:Nat),Paired R (xs.eraseIdx j) (ds.eraseIdx j)
  | _,_,.nil,_ => .nil
  | _,_,.cons r t,0 => t
  | _,_,.cons r t,j + 1 => .cons r (Pd.erase t j)
theorem op_addAc {X:Cx} {scope:Scope} {caps:List (Str×Addr)} {N:List Str} {C:Addr} {s0:Shared} {H0:Hp} {ex:List Addr}:OpR (cxComp X scope caps N C s0 H0 ex) (binaryOp .Add) (rAddA X.K):=op_addA
noncomputable def n5:List TRun:=[(sA,sB,Rat.divInt 1 1)]
end L2
namespace L2
open PySem PySem.Spec PyProof.Rows
section
variable {X:Cx}
noncomputable def tFmtI (te:TE):TE:=fun σ H Q => te σ H fun x H1 => ∃ i:Nat,x = .int i /\ i < 1000 /\ ∀ z:Str,z.length <= 10 -> Q (.str z) H1
noncomputable def tJn:List TE -> TE
  | [],_,H,Q => ∀ z:Str,Q (.str z) H
  | t :: r,σ,H,Q => t σ H fun x H1 => ∃ y:Str,x = .str y /\ y.length <= 1000 /\ tJn r σ H1 Q
inductive PJs (X:Cx):List Expr -> List TE -> Prop
  | nil:PJs X [] []
  | cons {v:Expr} {vs:List Expr} {t:TE} {ts:List TE} (h:PE X v t) (r:PJs X vs ts):PJs X (v :: vs) (t :: ts)
theorem pj_nil:PJs X [] []:=.nil
theorem pj_cons {v:Expr} {vs:List Expr} {t:TE} {ts:List TE} (h:PE X v t) (r:PJs X vs ts):PJs X (v :: vs) (t :: ts):=.cons h r
theorem r_jn0 {σ:St} {H:Hp} {Q:VK} (k:∀ z:Str,Q (.str z) H):tJn [] σ H Q:=k
noncomputable def jnK (r:List TE) (σ:St) (Q:VK):VK:=fun x H1 => ∃ y:Str,x = .str y /\ y.length <= 1000 /\ tJn r σ H1 Q
theorem r_jn {t:TE} {r:List TE} {σ:St} {H:Hp} {Q:VK} (k:t σ H (jnK r σ Q)):tJn (t :: r) σ H Q:=k
theorem r_jnK {r:List TE} {σ:St} {H:Hp} {Q:VK} {y:Str} (hy:y.length <= 1000) (k:tJn r σ H Q):jnK r σ Q (.str y) H:=⟨y,rfl,hy,k⟩
noncomputable def fmK (Q:VK):VK:=fun x H1 => ∃ i:Nat,x = .int i /\ i < 1000 /\ ∀ z:Str,z.length <= 10 -> Q (.str z) H1
theorem r_fmt {te:TE} {σ:St} {H:Hp} {Q:VK} (k:te σ H (fmK Q)):tFmtI te σ H Q:=k
end
theorem pe_bmc {X:Cx} {scope:Scope} {caps:List (Str×Addr)} {N:List Str} {C:Addr} {s0:Shared} {H0:Hp} {ex:List Addr} {o e:Expr} {es:List Expr} {to:TE} {t:TA} {name:Str} {apos cpos:Pos} {T id:String} {r:V -> List V -> Hp -> VK -> Prop}
    (pa:PlainAttrs T) (slot:Slot T name id) (hty:typeOf (.builtin id) = pure (.type "method_descriptor")) (hm:MtR (cxComp X scope caps N C s0 H0 ex) id r) (ho:PE (cxComp X scope caps N C s0 H0 ex) o to) (ha:PA (cxComp X scope caps N C s0 H0 ex) (e :: es) t)
    (hbase:attributeBase o name (cxComp X scope caps N C s0 H0 ex).env (eval o (cxComp X scope caps N C s0 H0 ex).env) = eval o (cxComp X scope caps N C s0 H0 ex).env:=by rfl)
    (hfew:((backTo cpos (starEach (e :: es) (cxComp X scope caps N C s0 H0 ex).env)).all (fun x => !x.1) && (backToKw cpos (keywordEach [] (cxComp X scope caps N C s0 H0 ex).env)).all (fun x => x.1.isSome)
      && decide ((e :: es).length + ([]:List Keyword).length + (if ([]:List Keyword).isEmpty then 0 else 1) < 30)) = true:=by rfl)
    (hline:(apos.endLine == cpos.line) = true:=by rfl) (hs:starEach (e :: es) (cxComp X scope caps N C s0 H0 ex).env = (false,eval e (cxComp X scope caps N C s0 H0 ex).env) :: starEach es (cxComp X scope caps N C s0 H0 ex).env:=by rfl)
    (hplain:(backTo cpos (starEach es (cxComp X scope caps N C s0 H0 ex).env)).any (·.1) = false:=by rfl) :
    PE (cxComp X scope caps N C s0 H0 ex) (.Call (.Attribute o name apos) (e :: es) [] cpos) (tBM X.K T r to t):=pe_bm pa slot hty hm ho ha hbase hfew hline hs hplain
theorem NT.sm {K:PySem.W.Frag} {H H':Hp} {x:V} (h:NT K H x) (s:Same H H'):NT K H' x:=let ⟨t,ty,e⟩:=h; ⟨t,TyOf.sm ty s,e⟩
theorem IsRunQ.sm {K:PySem.W.Frag} {H H':Hp} {x:V} {b:Bool} (h:IsRunQ K H x b) (s:Same H H'):IsRunQ K H' x b:=by
  cases h with
  | nt h => exact .nt (h.sm s)
  | len h n => exact .len (s _ _ h) n
  | one h hu => exact .one (s _ _ h) (hu.sm s)
  | two h hu hv => exact .two (s _ _ h) (hu.sm s) (hv.sm s)
  | same h hu => exact .same (s _ _ h) (hu.sm s)
  | time h hu hv hn ht => exact .time (s _ _ h) (hu.sm s) (hv.sm s) hn fun H2 s2 => ht H2 (s.trans s2)
  | run h hu hv hn ht hf sa sc => exact .run (s _ _ h) (hu.sm s) (hv.sm s) hn (s _ _ ht) hf sa sc
noncomputable def NL (K:PySem.W.Frag) (H:Hp) (x:V):Prop:=∃ t,TyOf K H x t /\ PySem.W.kitOne K t (.type "list") = some false
section
variable {σ:St} {H:Hp} {D:Ends} {K:PySem.W.Frag}
end
end L2
namespace L2
open PySem PySem.Spec PyProof.Rows
inductive Wsh where
  | after (s u:Str) (q:Rat) | within (s u:Str) (q:Rat) | wit (s u:Str) | frm (s:Str) (q:Rat)
noncomputable def WishQ (H:Hp) (v:V):Wsh -> Prop
  | .after s u q => ∃ p t,v = .ref p /\ H p = some (.tup [.str "after",.str s,.str u,t]) /\ FrQ H t q
  | .within s u q => ∃ p t,v = .ref p /\ H p = some (.tup [.str "within",.str s,.str u,t]) /\ FrQ H t q
  | .wit s u => ∃ p,v = .ref p /\ H p = some (.tup [.str "with",.str s,.str u])
  | .frm s q => ∃ p t,v = .ref p /\ H p = some (.tup [.str "from",.str s,t]) /\ FrQ H t q
theorem WishQ.tk {H H':Hp} {v:V}:∀ {w:Wsh},WishQ H v w -> TK H H' -> WishQ H' v w
  | .after _ _ _,⟨p,t,e,h,f⟩,k => ⟨p,t,e,k _ _ h,f.tk k⟩
  | .within _ _ _,⟨p,t,e,h,f⟩,k => ⟨p,t,e,k _ _ h,f.tk k⟩
  | .wit _ _,⟨p,e,h⟩,k => ⟨p,e,k _ _ h⟩
  | .frm _ _,⟨p,t,e,h,f⟩,k => ⟨p,t,e,k _ _ h,f.tk k⟩
noncomputable def PostS (s:Str):Prop:=postB s = true /\ s.length <= 100
theorem PostS.q {K:PySem.W.Frag} {H:Hp} {s:Str} (h:PostS s):PostQ K H (.str s) true:=.inl ⟨s,rfl,by have:=h.2; omega,h.1.symm⟩
noncomputable def SmR (q:Rat):Prop:=Sm 8000 q.num /\ Sm 8000 (q.den:Int)
noncomputable def Wsh.ok:Wsh -> Prop
  | .after s u q => PostS s /\ PostS u /\ s ≠ u /\ SmR q
  | .within s u q => PostS s /\ PostS u /\ s ≠ u /\ SmR q
  | .wit s u => PostS s /\ PostS u /\ s ≠ u
  | .frm s q => PostS s /\ 0 <= q.num /\ SmR q
theorem fr_frV (q:Rat):frV (.int q.num) (.int q.den) = true:=by
  show (decide (1 <= (q.den:Int)) && decide (Int.gcd q.num q.den = 1)) = true
  have h1:1 <= (q.den:Int):=by have:=q.den_pos; omega
  have h2:Int.gcd q.num q.den = 1:=q.reduced
  rw [decide_eq_true h1,decide_eq_true h2]
  rfl
theorem FrQ.frq {K:PySem.W.Frag} {H:Hp} {v:V} {q:Rat} (h:FrQ H v q) (s:SmR q):Frq K H v true:=by
  obtain ⟨p,rfl,hp⟩:=h
  exact .inr (.inr ⟨p,_,_,rfl,hp,rfl,rfl,fun a b e1 e2 => by cases e1; cases e2; exact s,(fr_frV q).symm⟩)
inductive PairQ (K:PySem.W.Frag) (H:Hp):V -> V -> Bool -> Prop
  | one {x y:V} (h:PostQ K H x false):PairQ K H x y false
  | two {x y:V} (hx:PostQ K H x true) (hy:PostQ K H y false):PairQ K H x y false
  | both {s u:Str} (hx:PostQ K H (.str s) true) (hy:PostQ K H (.str u) true):PairQ K H (.str s) (.str u) (!decide (s = u))
theorem PairQ.sm {K:PySem.W.Frag} {H H':Hp} {x y:V} {b:Bool} (h:PairQ K H x y b) (s:Same H H'):PairQ K H' x y b:=by
  cases h with
  | one h => exact .one (h.sm s)
  | two hx hy => exact .two (hx.sm s) (hy.sm s)
  | both hx hy => exact .both (hx.sm s) (hy.sm s)
inductive MomQ (K:PySem.W.Frag) (H:Hp):V -> Bool -> Prop
  | no {x:V} (h:Frq K H x false):MomQ K H x false
  | fr {p:Addr} {a b:Int} (h:H p = some (.tup [.int a,.int b])) (hf:frV (.int a) (.int b) = true) (sa:Sm 8000 a) (sb:Sm 8000 b):MomQ K H (.ref p) (decide (0 <= a))
inductive IsWishQ (K:PySem.W.Frag) (H:Hp):V -> Bool -> Prop
  | nt {x:V} (h:NT K H x):IsWishQ K H x false
  | len {p:Addr} {xs:List V} (h:H p = some (.tup xs)) (n3:xs.length ≠ 3) (n4:xs.length ≠ 4):IsWishQ K H (.ref p) false
  | no3 {p:Addr} {u x t:V} (h:H p = some (.tup [u,x,t])) (hu:NS K H u):IsWishQ K H (.ref p) false
  | four {p:Addr} {k:Str} {x y t:V} (h:H p = some (.tup [.str k,x,y,t])) (h1:k ≠ "after") (h2:k ≠ "within"):IsWishQ K H (.ref p) false
  | nop {p:Addr} {k:Str} {x y t:V} (h:H p = some (.tup [.str k,x,y,t])) (h1:k = "after" ∨ k = "within") (hp:PairQ K H x y false):IsWishQ K H (.ref p) false
  | frac {p:Addr} {k:Str} {x y t:V} {b:Bool} (h:H p = some (.tup [.str k,x,y,t])) (h1:k = "after" ∨ k = "within") (hp:PairQ K H x y true) (ht:∀ H',Same H H' -> Frq K H' t b):IsWishQ K H (.ref p) b
  | frm0 {p:Addr} {x t:V} (h:H p = some (.tup [.str "from",x,t])) (hx:PostQ K H x false):IsWishQ K H (.ref p) false
  | frm {p:Addr} {x t:V} {b:Bool} (h:H p = some (.tup [.str "from",x,t])) (hx:PostQ K H x true) (ht:∀ H',Same H H' -> MomQ K H' t b):IsWishQ K H (.ref p) b
  | wit0 {p:Addr} {k:Str} {x y:V} (h:H p = some (.tup [.str k,x,y])) (h1:k ≠ "from") (h2:k ≠ "with"):IsWishQ K H (.ref p) false
  | wit {p:Addr} {x y:V} {b:Bool} (h:H p = some (.tup [.str "with",x,y])) (hp:PairQ K H x y b):IsWishQ K H (.ref p) b
theorem WishQ.is {K:PySem.W.Frag} {H:Hp} {v:V}:∀ {w:Wsh},WishQ H v w -> w.ok -> IsWishQ K H v true
  | .after s u q,⟨p,t,e,h,f⟩,⟨h1,h2,h3,h4⟩ => by
    subst e
    have:=PairQ.both (K:=K) (H:=H) h1.q h2.q
    rw [decide_eq_false h3] at this
    exact .frac h (.inl rfl) this fun H' s' => (f.tk s'.tk).frq h4
  | .within s u q,⟨p,t,e,h,f⟩,⟨h1,h2,h3,h4⟩ => by
    subst e
    have:=PairQ.both (K:=K) (H:=H) h1.q h2.q
    rw [decide_eq_false h3] at this
    exact .frac h (.inr rfl) this fun H' s' => (f.tk s'.tk).frq h4
  | .wit s u,⟨p,e,h⟩,⟨h1,h2,h3⟩ => by
    subst e
    have:=PairQ.both (K:=K) (H:=H) h1.q h2.q
    rw [decide_eq_false h3] at this
    exact .wit h this
  | .frm s q,⟨p,t,e,h,f⟩,⟨h1,h2,h3⟩ => by
    subst e
    refine .frm h h1.q fun H' s' => ?_
    obtain ⟨pt,rfl,hpt⟩:=f.tk s'.tk
    have:=MomQ.fr (K:=K) hpt (fr_frV q) h3.1 h3.2
    rw [decide_eq_true h2] at this
    exact this
noncomputable abbrev Stp:=Str×Str×Rat×Nat
noncomputable def StepQ (H:Hp) (v:V) (x:Stp):Prop:=∃ p t,v = .ref p /\ H p = some (.tup [.str x.1,.str x.2.1,t,.int x.2.2.2]) /\ FrQ H t x.2.2.1
theorem StepQ.tk {H H':Hp} {v:V} {x:Stp} (h:StepQ H v x) (k:TK H H'):StepQ H' v x:=let ⟨p,t,e,h,f⟩:=h; ⟨p,t,e,k _ _ h,f.tk k⟩
noncomputable def dWish:Wsh -> Dt
  | .after s u q => .tup [.str "after",.str s,.str u,dFr q]
  | .within s u q => .tup [.str "within",.str s,.str u,dFr q]
  | .wit s u => .tup [.str "with",.str s,.str u]
  | .frm s q => .tup [.str "from",.str s,dFr q]
noncomputable def dStep (x:Stp):Dt:=.tup [.str x.1,.str x.2.1,dFr x.2.2.1,.int x.2.2.2]
theorem FrQ.den {H:Hp} {v:V} {q:Rat} (h:FrQ H v q):Den H (dFr q) v:=by
  obtain ⟨p,rfl,h⟩:=h
  exact den2 h
theorem WishQ.den {H:Hp} {v:V}:∀ {w:Wsh},WishQ H v w -> Den H (dWish w) v
  | .after s u q,⟨p,t,e,h,f⟩ => ⟨p,_,e,h,_,_,rfl,rfl,_,_,rfl,rfl,_,_,rfl,rfl,_,_,rfl,f.den,rfl⟩
  | .within s u q,⟨p,t,e,h,f⟩ => ⟨p,_,e,h,_,_,rfl,rfl,_,_,rfl,rfl,_,_,rfl,rfl,_,_,rfl,f.den,rfl⟩
  | .wit s u,⟨p,e,h⟩ => ⟨p,_,e,h,_,_,rfl,rfl,_,_,rfl,rfl,_,_,rfl,rfl,rfl⟩
  | .frm s q,⟨p,t,e,h,f⟩ => ⟨p,_,e,h,_,_,rfl,rfl,_,_,rfl,rfl,_,_,rfl,f.den,rfl⟩
theorem StepQ.den {H:Hp} {v:V} {x:Stp} (h:StepQ H v x):Den H (dStep x) v :=
  let ⟨p,t,e,h,f⟩:=h; ⟨p,_,e,h,_,_,rfl,rfl,_,_,rfl,rfl,_,_,rfl,f.den,_,_,rfl,rfl,rfl⟩
theorem den_of {β:Type} {R:Hp -> V -> β -> Prop} {H:Hp} {f:β -> Dt} (hR:∀ v b,R H v b -> Den H (f b) v):∀ {ds:List β} {vs:List V},Paired (R H) vs ds -> DenL H (ds.map f) vs
  | [],_,.nil => rfl
  | d :: ds,_,.cons h t => ⟨_,_,rfl,hR _ _ h,den_of hR t⟩
section
variable {H:Hp} {Q:VK} {l1 l2:Addr}
end
noncomputable def bef (i:Nat):Str:=([("":Str),"ab","abc.d","x.y.z"][i]?).getD ""
noncomputable def beh (i:Nat):Str:=([("":Str),"q",".r","qqqq"][i]?).getD ""
theorem nn_a {a b c:Int} (h1:0 <= a) (h2:0 <= b) (h3:0 <= c):0 <= (a * 2147483587 + b) * 2147483543 + c:=Int.add_nonneg (Int.mul_nonneg (Int.add_nonneg (Int.mul_nonneg h1 (by decide)) h2) (by decide)) h3
theorem nn_b {a c:Int} (h:0 <= a):0 <= a * 1000000000000000000 + c % 1000000000000000000:=Int.add_nonneg (Int.mul_nonneg h (by decide)) (Int.emod_nonneg c (by decide))
end L2
namespace L2
open PySem PySem.Spec PyProof.Rows
noncomputable def rMulS:R2:=fun x y H Q => ∃ (z:Str) (n:Int),x = .str z /\ y = .int n /\ 0 <= n /\ n <= 1000 /\ z.length <= 1000 /\ ∀ u:Str,u.cps.toList = (List.replicate n.toNat z.cps.toList).flatten -> Q (.str u) H
theorem fold_app:∀ (l:List (Array Nat)) (a:Array Nat),(l.foldl (· ++ ·) a).toList = a.toList ++ (l.map (·.toList)).flatten
  | [],a => by simp
  | x :: l,a => by
    rw [List.foldl_cons,fold_app l (a ++ x)]
    simp
theorem op_mulS {X:Cx}:OpR X (binaryOp .Mult) rMulS:=by
  intro pins s σ H x y v u Q I rx ry h
  obtain ⟨z,n,rfl,rfl,h0,h1,hz,q⟩:=h
  obtain ⟨t,rfl⟩:=rx
  obtain ⟨t',rfl⟩:=ry
  have hfit:z.length * n.toNat <= 1000000:=Nat.le_trans (Nat.mul_le_mul hz (show n.toNat <= 1000 by omega)) (by decide)
  refine PySem.P.mul_str ?_ (fun h2 _ => ?_) (fun _ _ => ?_) ?_
  . rw [decide_eq_false (by omega),decide_eq_false (by omega)]
    rfl
  . intro z2
    have e1:(2 ^ 63 - 1) / n ≥ (2 ^ 63 - 1) / 1000:=Int.le_ediv_of_mul_le (by omega) (by
      have:(2 ^ 63 - 1) / 1000 * n <= (2 ^ 63 - 1) / 1000 * 1000:=Int.mul_le_mul_of_nonneg_left h1 (by decide)
      exact Int.le_trans this (by decide))
    have:((2:Int) ^ 63 - 1) / 1000 > 1000:=by decide
    omega
  . unfold Builtin.Str.tooLong
    rw [decide_eq_false_iff_not,sizeLine_eq]
    omega
  . split
    . refine ⟨by decide,.str Str.empty,H,I.tok _,⟨_,rfl⟩,q _ ?_⟩
      have:n.toNat = 0:=by omega
      rw [this]
      rfl
    . split
      . rename_i h3 h4
        refine ⟨.str z,H,I,⟨_,rfl⟩,q _ ?_⟩
        rw [Bool.or_eq_true] at h4
        rcases h4 with h4 | h4
        . have:n = 1:=by simpa using h4
          subst this
          simp
        . have hz0:z.cps.toList = []:=by
            have:z.length = 0:=by simpa using h4
            rw [len_cps] at this
            exact List.eq_nil_of_length_eq_zero this
          rw [hz0]
          simp
      . have e:(⟨(List.replicate n.toNat z.cps).foldl (· ++ ·) #[]⟩:Str).cps.toList = (List.replicate n.toNat z.cps.toList).flatten:=by
          rw [fold_app]
          simp
        refine ⟨?_,.str _,H,I.tok _,⟨_,rfl⟩,q _ e⟩
        rw [len_cps,e,List.length_flatten,List.map_replicate,List.sum_replicate_nat,← len_cps,sizeLine_eq]
        have:=Nat.mul_comm n.toNat z.length
        omega
noncomputable def LetS (z:Str):Prop:=∀ c ∈ z.cps.toList,97 <= c /\ c < 123
theorem partB_of {z:Str} (h1:1 <= z.length) (h2:z.length <= 8) (h:LetS z):partB z = true:=by
  unfold partB
  rw [decide_eq_true h1,decide_eq_true h2,Bool.true_and,Bool.true_and,List.all_eq_true]
  intro c hc
  rw [decide_eq_true (h c hc).1,decide_eq_true (h c hc).2]
  rfl
theorem LetS.app {x y:Str} (h:LetS x) (h':LetS y):LetS (x ++ y):=fun c hc => by
  have e:(x ++ y).cps.toList = x.cps.toList ++ y.cps.toList:=by
    show (x.cps ++ y.cps).toList = _
    simp
  rw [e] at hc
  exact (List.mem_append.mp hc).elim (h c) (h' c)
theorem LetS.one {c:Nat} (h1:97 <= c) (h2:c < 123):LetS ⟨#[c]⟩:=fun x hx => by
  have:x = c:=by simpa using hx
  subst this
  exact ⟨h1,h2⟩
theorem sl4:∀ j:Nat,j < 4 -> (Txt.slice abc none (some (j:Int))).length = j /\ LetS (Txt.slice abc none (some (j:Int))):=by
  intro j hj
  have:j = 0 ∨ j = 1 ∨ j = 2 ∨ j = 3:=by omega
  unfold LetS
  rcases this with rfl | rfl | rfl | rfl <;> decide +kernel
theorem rep_let {u z:Str} {n:Nat} (e:u.cps.toList = (List.replicate n z.cps.toList).flatten) (hz:z.length = 1) (h:LetS z):u.length = n /\ LetS u:=by
  constructor
  . rw [len_cps,e,List.length_flatten,List.map_replicate,List.sum_replicate_nat,← len_cps,hz,Nat.mul_one]
  . intro c hc
    rw [e] at hc
    obtain ⟨l,hl,hc⟩:=List.mem_flatten.mp hc
    rw [List.eq_of_mem_replicate hl] at hc
    exact h c hc
inductive RKind where
  | row | star | ring
noncomputable def RKind.nm:RKind -> Str
  | .row => "row"
  | .star => "star"
  | .ring => "ring"
inductive PRow where
  | run (a b:Str) (t:Rat) | path (k:RKind) (t:Rat) (ps:List Str)
noncomputable def PRowQ (H:Hp) (v:V):PRow -> Prop
  | .run a b t => ∃ p u,v = .ref p /\ H p = some (.tup [.str "run",.str a,.str b,u]) /\ FrQ H u t
  | .path k t ps => ∃ p u q,v = .ref p /\ H p = some (.tup [.str k.nm,u,.ref q]) /\ FrQ H u t /\ H q = some (.tup (ps.map V.str))
theorem PRowQ.tk {H H':Hp} {v:V} {r:PRow} (h:PRowQ H v r) (t:TK H H'):PRowQ H' v r:=by
  cases r with
  | run a b q => obtain ⟨p,u,e,h,f⟩:=h; exact ⟨p,u,e,t _ _ h,f.tk t⟩
  | path k q ps => obtain ⟨p,u,z,e,h,f,g⟩:=h; exact ⟨p,u,z,e,t _ _ h,f.tk t,t _ _ g⟩
noncomputable def along (t:Rat):List Str -> List TRun
  | a :: b :: r => (a,b,t) :: along t (b :: r)
  | _ => []
noncomputable def PRow.runs:PRow -> List TRun
  | .run a b t => [(a,b,t)]
  | .path .row t ps => along t ps
  | .path .star t ps => ps.tail.map fun x => (ps.headD "",x,t)
  | .path .ring t ps => along t (ps ++ ps.take 1)
noncomputable def TimR (q:Rat):Prop:=0 < q /\ q.num <= 999999999999 /\ q.den <= 999999999999
noncomputable def okP:PRow -> Prop
  | .run a b t => PostS a /\ PostS b /\ TimR t
  | .path k t ps => (∀ s ∈ ps,PostS s) /\ TimR t /\ 2 <= ps.length /\ ps.length <= 30 /\ (k = .ring -> 3 <= ps.length)
noncomputable def PRow.kind:PRow -> Str
  | .run _ _ _ => "run"
  | .path k _ _ => k.nm
theorem PRowQ.head {H:Hp} {v:V} {r:PRow} (h:PRowQ H v r):∃ p xs,v = .ref p /\ H p = some (.tup (.str r.kind :: xs)):=by
  cases r with
  | run a b t => obtain ⟨p,u,e,h,_⟩:=h; exact ⟨p,_,e,h⟩
  | path k t ps => obtain ⟨p,u,q,e,h,_⟩:=h; exact ⟨p,_,e,h⟩
theorem PRow.no_piece (r:PRow):r.kind ≠ "piece":=by
  cases r with
  | run a b t => exact show ("run":Str) ≠ "piece" by decide +kernel
  | path k t ps =>
    show k.nm ≠ "piece"
    cases k <;> decide +kernel
section
open Sem (wp)
open AutoSeq1 (wpAny_loadPart')
variable {prog:Program} {w:World} {A:Around} {E:Value -> Shared -> Prop} {s:Shared}
end
noncomputable def IteT (K:PySem.W.Frag) (a:Addr):It :=
  ⟨fun i H => ∃ xs x,SqT K H a xs /\ xs[i]? = some x,fun i H v H' => ∃ T x,v = .ref T /\ H T = none /\ H' = upd H T (.tup [.int i,x]) /\ ∀ xs,SqT K H a xs -> xs[i]? = some x,fun i H => ∃ xs,SqT K H a xs /\ xs.length = i⟩
section
variable {X:Cx} {pins:List (Addr×Obj)} {σ:St} {H:Hp} {s:Shared} {tg:Expr}
noncomputable def iEnumT (K:PySem.W.Frag) (tl:TA):TI:=fun σ H R => tl σ H fun vs H1 => ∃ a,vs = [.ref a] /\ (∃ xs,SqT K H1 a xs) /\ R (IteT K a) H1
end
section
variable {te:TE} {Q:VK} {H:Hp} {σ:St} {caps:St} {K:PySem.W.Frag}
theorem r_iEnumT {tl:TA} {R:It -> Hp -> Prop} (k:tl σ H fun vs H1 => ∃ a,vs = [.ref a] /\ (∃ xs,SqT K H1 a xs) /\ R (IteT K a) H1):iEnumT K tl σ H R:=k
end
theorem pg_tupc {X:Cx} {scope:Scope} {caps:List (Str×Addr)} {N:List Str} {C:Addr} {s0:Shared} {H0:Hp} {ex:List Addr} {es:List Expr} {k:Nat} {t:TGs} {n:Nat} {pos:Pos} (hc:(cxComp X scope caps N C s0 H0 ex).calm = true) (h:PGs (cxComp X scope caps N C s0 H0 ex) es t)
    (hn:(assignEach es (cxComp X scope caps N C s0 H0 ex).env).length = n:=by rfl) (hst:(assignEach es (cxComp X scope caps N C s0 H0 ex).env).findIdx? (·.1) = none:=by rfl):PG (cxComp X scope caps N C s0 H0 ex) (.Tuple es k pos) (gTup X.K n t):=pg_tup hc h hn hst
section
variable {K:PySem.W.Frag} {H:Hp} {Q:VK} {p:Addr} {xs:List V}
end
noncomputable def okR (r:TRun):Prop:=PostS r.1 /\ PostS r.2.1 /\ TimR r.2.2
noncomputable def szP:PRow -> Nat
  | .run _ _ _ => 2
  | .path _ _ ps => ps.length
noncomputable def okQ (r:PRow):Prop:=(∀ x ∈ r.runs,okR x) /\ 2 <= szP r /\ szP r <= 190
theorem along_ok {t:Rat} (ht:TimR t):∀ {ps:List Str},(∀ s ∈ ps,PostS s) -> ∀ x ∈ along t ps,okR x
  | [],_,_,h => nomatch h
  | [_],_,_,h => nomatch h
  | a :: b :: r,hp,x,h => by
    rcases List.mem_cons.mp h with rfl | h
    . exact ⟨hp a (by simp),hp b (by simp),ht⟩
    . exact along_ok ht (ps:=b :: r) (fun s hs => hp s (List.mem_cons_of_mem _ hs)) x h
theorem okP.q {r:PRow} (h:okP r):okQ r:=by
  cases r with
  | run a b t =>
    refine ⟨fun x hx => ?_,show 2 <= 2 by decide,show 2 <= 190 by decide⟩
    rw [List.mem_singleton.mp hx]
    exact h
  | path k t ps =>
    obtain ⟨h1,h2,h3,h4,_⟩:=h
    refine ⟨?_,h3,Nat.le_trans h4 (by decide)⟩
    cases k with
    | row => exact along_ok h2 h1
    | star =>
      intro x hx
      obtain ⟨y,hy,rfl⟩:=List.mem_map.mp hx
      cases ps with
      | nil => exact absurd h3 (by decide)
      | cons a r => exact ⟨h1 a (by simp),h1 y (List.mem_cons_of_mem _ hy),h2⟩
    | ring => exact along_ok h2 fun s hs => (List.mem_append.mp hs).elim (h1 s) fun h => h1 s (List.mem_of_mem_take h)
noncomputable def cntR (rs:List PRow):Nat:=(rs.map fun r => r.runs.length).sum
noncomputable def allR (rs:List PRow):List TRun:=(rs.map PRow.runs).flatten
theorem cut_n {xs:List V} (n:Nat):cutV xs none (some (n:Int)) = xs.take n:=by
  unfold cutV
  have e1:HT.sIx xs.length 0 none = 0:=rfl
  have e2:HT.sIx xs.length xs.length (some (n:Int)) = min n xs.length:=by
    unfold HT.sIx
    simp
    omega
  rw [e1,e2,List.drop_zero,Nat.sub_zero]
  rcases Nat.le_total n xs.length with h | h
  . rw [Nat.min_eq_left h]
  . rw [Nat.min_eq_right h,List.take_length,List.take_of_length_le h]
noncomputable def RowsQ (H:Hp) (l:Addr) (rs:List PRow):Prop:=∃ xs,H l = some (.lst xs) /\ Paired (PRowQ H) xs rs
theorem RowsQ.sm {H G:Hp} {l:Addr} {rs:List PRow} (h:RowsQ H l rs) (s:Same H G):RowsQ G l rs:=let ⟨xs,a,b⟩:=h; ⟨xs,s _ _ a,Pd.imp b fun _ _ f => f.tk s.tk⟩
theorem PostS.few {s:Str} (h:PostS s) {n:Nat} (e:n + 1 = (Txt.split s ⟨#[46]⟩).length):n <= 3:=by
  have:=h.1
  rw [post_split,Bool.and_eq_true,decide_eq_true_iff] at this
  omega
theorem r_whileO {c:TT} {tb:TS} {D:Ends} {σ:St} {H:Hp} (Pv:Nat -> St -> Hp -> Prop) {m0:Nat} (h0:Pv m0 σ H)
    (hs:∀ m σ H,Pv m σ H -> c σ H fun b H1 => if b = true then ∃ N:St -> Hp -> Prop,(∀ σ' H',N σ' H' -> ∃ m',m' < m /\ Pv m' σ' H') /\ tb { D with nx:=N,ct:=N,bk:=D.nx } σ H1 else D.nx σ H1):tWhile c tb D σ H:=⟨Pv,⟨_,h0⟩,hs⟩
theorem FrQ.of2 {H:Hp} {p:Addr} {f g:Int} (hg:0 < g) (hc:Int.gcd f g = 1) (h:H p = some (.tup [.int f,.int g])):FrQ H (.ref p) (Rat.divInt f g):=by
  obtain ⟨e1,e2⟩:=rat_of (t:=f) (b:=g) (f:=f) (g:=g) (by omega) hg hc rfl
  exact ⟨p,rfl,by rw [h,e1,e2]⟩
theorem TimR.of2 {f g:Int} (hf:0 < f) (hf':f <= 999999999999) (hg:0 < g) (hg':g <= 999999999999) (hc:Int.gcd f g = 1):TimR (Rat.divInt f g):=by
  obtain ⟨e1,e2⟩:=rat_of (t:=f) (b:=g) (f:=f) (g:=g) (by omega) hg hc rfl
  refine ⟨?_,by rw [e1]; exact hf',?_⟩
  . have h1:0 < (Rat.divInt f g).num:=by rw [e1]; exact hf
    have:=Rat.num_nonneg.mp (Int.le_of_lt h1)
    exact Rat.lt_of_le_of_ne this fun z => by rw [← z] at h1; exact absurd h1 (by decide)
  . omega
theorem PRowQ.sm {H G:Hp} {v:V} {r:PRow} (h:PRowQ H v r) (s:Same H G):PRowQ G v r:=h.tk s.tk
noncomputable def dRow:PRow -> Dt
  | .run a b t => .tup [.str "run",.str a,.str b,dFr t]
  | .path k t ps => .tup [.str k.nm,dFr t,.tup (ps.map Dt.str)]
theorem den_ps {G:Hp}:∀ ys:List Str,DenL G (ys.map Dt.str) (ys.map V.str)
  | [] => rfl
  | y :: r => ⟨_,_,rfl,rfl,den_ps r⟩
theorem PRowQ.den {H:Hp} {v:V}:∀ {r:PRow},PRowQ H v r -> Den H (dRow r) v
  | .run a b t,⟨p,u,e,h,f⟩ => ⟨p,_,e,h,_,_,rfl,rfl,_,_,rfl,rfl,_,_,rfl,rfl,_,_,rfl,f.den,rfl⟩
  | .path k t ps,⟨p,u,z,e,h,f,g⟩ => ⟨p,_,e,h,_,_,rfl,rfl,_,_,rfl,f.den,_,_,rfl,⟨z,_,rfl,g,den_ps ps⟩,rfl⟩
theorem dep_ps:∀ ps:List Str,depL (ps.map Dt.str) <= 1
  | [] => by simp [depL]
  | p :: r => by
    have:=dep_ps r
    rw [List.map_cons]
    simp only [depL,dep]
    omega
theorem dep_row:∀ r:PRow,dep (dRow r) <= 5
  | .run _ _ _ => by simp [dep,depL,dRow,dFr]
  | .path _ _ ps => by
    have:=dep_ps ps
    simp only [dep,depL,dRow,dFr]
    omega
noncomputable def BadR (rs:List PRow):Prop:=allR rs = [] ∨ ∃ r ∈ allR rs,r.1 = r.2.1
noncomputable def DV (H0 H:Hp) (v:V) (rs:List PRow):Prop:=(120 < cntR rs /\ v = .str "many") ∨ (cntR rs <= 120 /\ BadR rs /\ v = .str "none") ∨ (cntR rs <= 120 /\ ¬ BadR rs /\ ∃ l,v = .ref l /\ H0 l = none /\ LQ RunQ H l (kn (allR rs)))
theorem DV.sm {H0 H G:Hp} {v:V} {rs:List PRow} (h:DV H0 H v rs) (s:Same H G):DV H0 G v rs:=by
  rcases h with h | h | ⟨h1,h2,l,h3,h4,h5⟩
  . exact .inl h
  . exact .inr (.inl h)
  . exact .inr (.inr ⟨h1,h2,l,h3,h4,h5.sm RunQ.tk s⟩)
end L2
namespace L2
open PySem PySem.Spec PyProof.Rows
inductive TRow where
  | plain (r:PRow) | put (nm cl:Str) (as:List Str)
noncomputable abbrev Piece:=Str×List Str×List TRow
inductive GRow where
  | one (r:TRow) | piece (p:Piece)
noncomputable def TRowQ (H:Hp) (v:V):TRow -> Prop
  | .plain r => PRowQ H v r
  | .put nm cl as => ∃ p q,v = .ref p /\ H p = some (.tup [.str "put",.str nm,.str cl,.ref q]) /\ H q = some (.tup (as.map V.str))
noncomputable def PieceQ (H:Hp) (v:V) (x:Piece):Prop:=∃ p q z xs,v = .ref p /\ H p = some (.tup [.str "piece",.str x.1,.ref q,.ref z]) /\ H q = some (.tup (x.2.1.map V.str)) /\ H z = some (.tup xs) /\ Paired (TRowQ H) xs x.2.2
noncomputable def GRowQ (H:Hp) (v:V):GRow -> Prop
  | .one r => TRowQ H v r
  | .piece p => PieceQ H v p
theorem TRowQ.tk {H H':Hp} {v:V} {r:TRow} (h:TRowQ H v r) (t:TK H H'):TRowQ H' v r:=by
  cases r with
  | plain r => exact PRowQ.tk h t
  | put nm cl as => obtain ⟨p,q,e,h1,h2⟩:=h; exact ⟨p,q,e,t _ _ h1,t _ _ h2⟩
theorem PieceQ.tk {H H':Hp} {v:V} {r:Piece} (h:PieceQ H v r) (t:TK H H'):PieceQ H' v r:=by
  obtain ⟨p,q,z,xs,e,h1,h2,h3,h4⟩:=h
  exact ⟨p,q,z,xs,e,t _ _ h1,t _ _ h2,t _ _ h3,Pd.imp h4 fun _ _ f => f.tk t⟩
theorem GRowQ.tk {H H':Hp} {v:V} {r:GRow} (h:GRowQ H v r) (t:TK H H'):GRowQ H' v r:=by
  cases r with
  | one r => exact TRowQ.tk h t
  | piece p => exact PieceQ.tk h t
noncomputable def nameP:List Str -> List Str -> Str -> Str -> Str
  | p :: ps,a :: as,cl,x => if p = x then a else nameP ps as cl x
  | _,_,cl,x => cl ++ ⟨#[46]⟩ ++ x
noncomputable def renR (ps as:List Str) (cl:Str) (r:TRun):TRun:=(nameP ps as cl r.1,nameP ps as cl r.2.1,r.2.2)
noncomputable def runsE:List Piece -> TRow -> List TRun
  | [],.plain r => r.runs
  | [],.put _ _ _ => []
  | _ :: _,.plain r => r.runs
  | p :: E,.put nm cl as => if p.1 = nm then (p.2.2.flatMap (runsE E)).map (renR p.2.1 as cl) else runsE E (.put nm cl as)
noncomputable def rkE:List Piece -> TRow -> Nat
  | _,.plain _ => 0
  | [],.put _ _ _ => 0
  | p :: E,.put nm cl as => if p.1 = nm then E.length + 1 else rkE E (.put nm cl as)
noncomputable def WfT (E:List Piece):TRow -> Prop
  | .plain r => okP r
  | .put nm cl as => partB cl = true /\ (∀ s ∈ as,PostS s) /\ (1 <= as.length /\ as.length <= 8) /\ ∃ p ∈ E,p.1 = nm /\ p.2.1.length = as.length
noncomputable def WfP (E:List Piece) (p:Piece):Prop:=(∀ r ∈ p.2.2,WfT E r) /\ p.2.2 ≠ [] /\ p.2.2.length <= 60 /\ p.2.1.Nodup /\ (1 <= p.2.1.length /\ p.2.1.length <= 8 /\ ∀ s ∈ p.1 :: p.2.1,partB s = true) /\ ∀ q ∈ E,q.1 ≠ p.1
noncomputable def WfE:List Piece -> Prop
  | [] => True
  | p :: E => WfP E p /\ WfE E
theorem fm_congr {α β:Type} {f g:α -> List β}:∀ {l:List α},(∀ r ∈ l,f r = g r) -> l.flatMap f = l.flatMap g
  | [],_ => rfl
  | a :: l,h => by rw [List.flatMap_cons,List.flatMap_cons,h a (by simp),fm_congr fun r hr => h r (List.mem_cons_of_mem _ hr)]
theorem runs_plain (E:List Piece) (r:PRow):runsE E (.plain r) = r.runs:=by cases E <;> rfl
theorem WfT.up {E:List Piece} {p:Piece} {r:TRow} (h:WfT E r):WfT (p :: E) r:=by
  cases r with
  | plain r => exact h
  | put nm cl as =>
    obtain ⟨h1,h2,h3,q,hq,e⟩:=h
    exact ⟨h1,h2,h3,q,List.mem_cons_of_mem _ hq,e⟩
theorem runs_ext {E:List Piece} {p:Piece} {r:TRow} (h:WfT E r) (d:∀ q ∈ E,q.1 ≠ p.1):runsE (p :: E) r = runsE E r:=by
  cases r with
  | plain r => rw [runs_plain,runs_plain]
  | put nm cl as =>
    obtain ⟨_,_,_,q,hq,e,_⟩:=h
    show (if p.1 = nm then _ else _) = _
    rw [if_neg fun z => d q hq (e.trans z.symm)]
theorem rk_ext {E:List Piece} {p:Piece} {r:TRow} (h:WfT E r) (d:∀ q ∈ E,q.1 ≠ p.1):rkE (p :: E) r = rkE E r:=by
  cases r with
  | plain r => cases E <;> rfl
  | put nm cl as =>
    obtain ⟨_,_,_,q,hq,e,_⟩:=h
    show (if p.1 = nm then _ else _) = _
    rw [if_neg fun z => d q hq (e.trans z.symm)]
theorem WfE.row {E:List Piece} (h:WfE E) {p:Piece} (hp:p ∈ E):∀ r ∈ p.2.2,WfT E r:=by
  induction E with
  | nil => cases hp
  | cons q E ih =>
    obtain ⟨h1,h2⟩:=h
    intro r hr
    rcases List.mem_cons.mp hp with rfl | hp
    . exact (h1.1 r hr).up
    . exact (ih h2 hp r hr).up
theorem WfE.at {E:List Piece} (h:WfE E) {p:Piece} (hp:p ∈ E):p.2.2 ≠ [] /\ p.2.2.length <= 60 /\ p.2.1.Nodup /\ (1 <= p.2.1.length /\ p.2.1.length <= 8 /\ ∀ s ∈ p.1 :: p.2.1,partB s = true):=by
  induction E with
  | nil => cases hp
  | cons q E ih =>
    obtain ⟨h1,h2⟩:=h
    rcases List.mem_cons.mp hp with rfl | hp
    . exact ⟨h1.2.1,h1.2.2.1,h1.2.2.2.1,h1.2.2.2.2.1⟩
    . exact ih h2 hp
theorem WfE.put {E:List Piece} (h:WfE E) {p:Piece} (hp:p ∈ E) (cl:Str) (as:List Str):runsE E (.put p.1 cl as) = (p.2.2.flatMap (runsE E)).map (renR p.2.1 as cl) /\ ∀ r ∈ p.2.2,rkE E r < rkE E (.put p.1 cl as):=by
  induction E with
  | nil => cases hp
  | cons q E ih =>
    obtain ⟨h1,h2⟩:=h
    rcases List.mem_cons.mp hp with rfl | hp
    . have e1:runsE (p :: E) (.put p.1 cl as) = (p.2.2.flatMap (runsE E)).map (renR p.2.1 as cl):=if_pos rfl
      have e2:rkE (p :: E) (.put p.1 cl as) = E.length + 1:=if_pos rfl
      rw [e1,e2]
      refine ⟨congrArg _ (fm_congr fun r hr => (runs_ext (h1.1 r hr) h1.2.2.2.2.2).symm),fun r hr => ?_⟩
      rw [rk_ext (h1.1 r hr) h1.2.2.2.2.2]
      exact Nat.lt_succ_of_le (rk_le E r)
    . have hne:q.1 ≠ p.1:=fun z => h1.2.2.2.2.2 p hp z.symm
      obtain ⟨i1,i2⟩:=ih h2 hp
      have e1:runsE (q :: E) (.put p.1 cl as) = runsE E (.put p.1 cl as):=if_neg hne
      have e2:rkE (q :: E) (.put p.1 cl as) = rkE E (.put p.1 cl as):=if_neg hne
      rw [e1,e2,i1]
      refine ⟨congrArg _ (fm_congr fun r hr => (runs_ext (h2.row hp r hr) h1.2.2.2.2.2).symm),fun r hr => ?_⟩
      rw [rk_ext (h2.row hp r hr) h1.2.2.2.2.2]
      exact i2 r hr
where rk_le:∀ (E:List Piece) (r:TRow),rkE E r <= E.length
  | [],.plain _ => Nat.le_refl _
  | [],.put _ _ _ => Nat.le_refl _
  | _ :: _,.plain _ => Nat.zero_le _
  | p :: E,.put nm cl as => by
    show (if p.1 = nm then E.length + 1 else rkE E (.put nm cl as)) <= E.length + 1
    split
    . exact Nat.le_refl _
    . exact Nat.le_succ_of_le (rk_le E _)
theorem dot_apart:∀ {a b r s:List Nat},46 ∉ a -> 46 ∉ b -> a ++ 46 :: r = b ++ 46 :: s -> a = b /\ r = s
  | [],[],_,_,_,_,e => ⟨rfl,(List.cons.inj e).2⟩
  | [],y :: b,_,_,_,hb,e => absurd (List.cons.inj e).1 (fun z => hb (by rw [z]; simp))
  | x :: a,[],_,_,ha,_,e => absurd (List.cons.inj e).1 (fun z => ha (by rw [← z]; simp))
  | x :: a,y :: b,_,_,ha,hb,e => by
    obtain ⟨e1,e2⟩:=List.cons.inj e
    obtain ⟨e3,e4⟩:=dot_apart (fun z => ha (List.mem_cons_of_mem _ z)) (fun z => hb (List.mem_cons_of_mem _ z)) e2
    exact ⟨by rw [e1,e3],e4⟩
theorem str_cps {x y:Str} (h:x.cps.toList = y.cps.toList):x = y:=by
  obtain ⟨a⟩:=x
  obtain ⟨b⟩:=y
  exact congrArg Str.mk (Array.toList_inj.mp h)
theorem join_one:∀ {ps qs:List Str} {x y:Str},(∀ p ∈ x :: ps,46 ∉ p.cps.toList) -> (∀ p ∈ y :: qs,46 ∉ p.cps.toList) -> (Str.join ⟨#[46]⟩ (x :: ps)).cps.toList = (Str.join ⟨#[46]⟩ (y :: qs)).cps.toList -> x :: ps = y :: qs
  | [],[],x,y,_,_,e => by
    rw [join_cps1,join_cps1] at e
    rw [str_cps e]
  | [],q :: qs,x,y,hx,_,e => by
    rw [join_cps1,join_cps2] at e
    exact absurd (show 46 ∈ x.cps.toList by rw [e]; simp) (hx x (by simp))
  | p :: ps,[],x,y,_,hy,e => by
    rw [join_cps1,join_cps2] at e
    exact absurd (show 46 ∈ y.cps.toList by rw [← e]; simp) (hy y (by simp))
  | p :: ps,q :: qs,x,y,hx,hy,e => by
    rw [join_cps2,join_cps2] at e
    obtain ⟨e1,e2⟩:=dot_apart (hx x (by simp)) (hy y (by simp)) e
    have:=join_one (fun z hz => hx z (List.mem_cons_of_mem _ hz)) (fun z hz => hy z (List.mem_cons_of_mem _ hz)) e2
    rw [str_cps e1,this]
theorem split_dot {cl x:Str} (h:46 ∉ cl.cps.toList):Txt.split (cl ++ ⟨#[46]⟩ ++ x) ⟨#[46]⟩ = cl :: Txt.split x ⟨#[46]⟩:=by
  have j1:=StrLaws.join_split (cl ++ ⟨#[46]⟩ ++ x) ⟨#[46]⟩
  have f1:=StrLaws.split_free (cl ++ ⟨#[46]⟩ ++ x) 46
  have p1:=split_pos (cl ++ ⟨#[46]⟩ ++ x) ⟨#[46]⟩
  have j2:=StrLaws.join_split x ⟨#[46]⟩
  have f2:=StrLaws.split_free x 46
  have p2:=split_pos x ⟨#[46]⟩
  generalize Txt.split (cl ++ ⟨#[46]⟩ ++ x) ⟨#[46]⟩ = ps at j1 f1 p1 ⊢
  generalize Txt.split x ⟨#[46]⟩ = qs at j2 f2 p2 ⊢
  cases ps with
  | nil => simp at p1
  | cons a ps =>
    cases qs with
    | nil => simp at p2
    | cons b qs =>
      refine join_one f1 (fun p hp => ?_) ?_
      . rcases List.mem_cons.mp hp with rfl | hp
        . exact h
        . exact f2 p hp
      . rw [j1,join_cps2,j2]
        show ((cl.cps ++ #[46]) ++ x.cps).toList = _
        simp
noncomputable def okNm (D:Nat) (s:Str):Prop:=(∀ p ∈ Txt.split s ⟨#[46]⟩,partB p = true) /\ (Txt.split s ⟨#[46]⟩).length <= D + 1 /\ s.length <= 100 + 9 * D
noncomputable def dots (s:Str):Nat:=(Txt.split s ⟨#[46]⟩).length - 1
theorem okNm.up {D D':Nat} {s:Str} (h:okNm D s) (l:D <= D'):okNm D' s:=⟨h.1,by have:=h.2.1; omega,by have:=h.2.2; omega⟩
theorem okNm.post {s:Str} (h:PostS s):okNm 3 s:=by
  have:=h.1
  rw [post_split,Bool.and_eq_true,decide_eq_true_iff,List.all_eq_true] at this
  exact ⟨this.2,this.1,by have:=h.2; omega⟩
theorem okNm.part {s:Str} (h:partB s = true):PostS s:=by
  obtain ⟨h1,h2,h3⟩:=part_facts h
  refine ⟨?_,by omega⟩
  have e:=pst_join [] s 1 (fun p hp => by rw [List.mem_singleton.mp hp]; exact h3)
  rw [join_cps1] at e
  show pst _ 1 0 = true
  rw [e]
  simp [h]
theorem okNm.dot {D:Nat} {cl x:Str} (hc:partB cl = true) (h:okNm D x):okNm (D + 1) (cl ++ ⟨#[46]⟩ ++ x):=by
  obtain ⟨h1,h2,h3⟩:=part_facts hc
  unfold okNm
  rw [split_dot h3]
  refine ⟨fun p hp => ?_,by have:=h.2.1; rw [List.length_cons]; omega,?_⟩
  . rcases List.mem_cons.mp hp with rfl | hp
    . exact hc
    . exact h.1 p hp
  . rw [len_app,len_app,show (⟨#[46]⟩:Str).length = 1 from rfl]
    have:=h.2.2
    omega
theorem okNm.postB {D:Nat} {s:Str} (h:okNm D s):postB s = decide (dots s <= 3):=by
  rw [post_split,List.all_eq_true.mpr h.1,Bool.and_true]
  have:=split_pos s ⟨#[46]⟩
  have e:((Txt.split s ⟨#[46]⟩).length <= 4) = (dots s <= 3):=by
    unfold dots
    exact propext ⟨fun _ => by omega,fun _ => by omega⟩
  simp only [e]
theorem okNm.name {D:Nat} {cl x:Str} (hc:partB cl = true) (hx:okNm D x) (hD:3 <= D):∀ {ps as:List Str},(∀ s ∈ as,PostS s) -> okNm (D + 1) (nameP ps as cl x)
  | [],_,_ => hx.dot hc
  | p :: ps,[],_ => hx.dot hc
  | p :: ps,a :: as,h => by
    show okNm _ (if p = x then a else nameP ps as cl x)
    split
    . exact (okNm.post (h a (by simp))).up (by omega)
    . exact okNm.name hc hx hD fun s hs => h s (List.mem_cons_of_mem _ hs)
noncomputable def okN (D:Nat) (r:TRun):Prop:=okNm D r.1 /\ okNm D r.2.1 /\ TimR r.2.2
theorem okR.n {r:TRun} (h:okR r):okN 3 r:=⟨okNm.post h.1,okNm.post h.2.1,h.2.2⟩
theorem okN.up {D D':Nat} {r:TRun} (h:okN D r) (l:D <= D'):okN D' r:=⟨h.1.up l,h.2.1.up l,h.2.2⟩
noncomputable def badN (r:TRun):Prop:=r.1 = r.2.1 ∨ 3 < dots r.1 ∨ 3 < dots r.2.1
noncomputable instance (r:TRun):Decidable (badN r):=inferInstanceAs (Decidable (_ ∨ _ ∨ _))
noncomputable def WfG:List Piece -> List GRow -> Prop
  | _,[] => True
  | E,.one r :: gs => WfT E r /\ WfG E gs
  | E,.piece p :: gs => WfP E p /\ WfG (p :: E) gs
noncomputable def envG:List Piece -> List GRow -> List Piece
  | E,[] => E
  | E,.one _ :: gs => envG E gs
  | E,.piece p :: gs => envG (p :: E) gs
theorem env_snoc:∀ (gs:List GRow) (E:List Piece) (g:GRow),envG E (gs ++ [g]) = envG (envG E gs) [g]
  | [],_,_ => rfl
  | .one _ :: gs,E,g => env_snoc gs E g
  | .piece p :: gs,E,g => env_snoc gs (p :: E) g
theorem wfg_snoc:∀ (gs:List GRow) (E:List Piece) (g:GRow),WfG E (gs ++ [g]) ↔ WfG E gs /\ WfG (envG E gs) [g]
  | [],E,g => ⟨fun h => ⟨trivial,h⟩,fun h => h.2⟩
  | .one r :: gs,E,g => by
    show WfT E r /\ WfG E (gs ++ [g]) ↔ (WfT E r /\ WfG E gs) /\ WfG (envG E gs) [g]
    rw [wfg_snoc gs E g,and_assoc]
  | .piece p :: gs,E,g => by
    show WfP E p /\ WfG (p :: E) (gs ++ [g]) ↔ (WfP E p /\ WfG (p :: E) gs) /\ WfG (envG (p :: E) gs) [g]
    rw [wfg_snoc gs (p :: E) g,and_assoc]
noncomputable def BadN (n:List TRun):Prop:=n = [] ∨ ∃ r ∈ n,badN r
noncomputable def DVn (H0 H:Hp) (v:V) (n:List TRun):Prop:=(120 < n.length /\ v = .str "many") ∨ (n.length <= 120 /\ BadN n /\ v = .str "none") ∨ (n.length <= 120 /\ ¬ BadN n /\ ∃ l,v = .ref l /\ H0 l = none /\ LQ RunQ H l (kn n))
theorem DVn.sm {H0 H G:Hp} {v:V} {n:List TRun} (h:DVn H0 H v n) (s:Same H G):DVn H0 G v n:=by
  rcases h with h | h | ⟨h1,h2,l,h3,h4,h5⟩
  . exact .inl h
  . exact .inr (.inl h)
  . exact .inr (.inr ⟨h1,h2,l,h3,h4,h5.sm RunQ.tk s⟩)
noncomputable def CntQ (H:Hp) (d:Addr) (E:List Piece):Prop:=∃ kvs,H d = some (.dK kvs) /\ kvs.length <= E.length /\ ∀ p ∈ E,valV kvs (Sum.inr p.1) = some (.int ((p.2.2.flatMap (runsE E)).length:Int))
noncomputable def PcsQ (H:Hp) (d:Addr) (E:List Piece):Prop:=∃ kvs,H d = some (.dK kvs) /\ kvs.length <= E.length /\ ∀ p ∈ E,∃ v,valV kvs (Sum.inr p.1) = some v /\ PieceQ H v p
noncomputable def LpcQ (H:Hp) (d:Addr) (E:List Piece):Prop:=∃ kvs,H d = some (.dK kvs) /\ kvs.length <= E.length /\ ∀ p ∈ E,∃ t q l,valV kvs (Sum.inr p.1) = some (.ref t) /\ H t = some (.tup [.ref q,.ref l]) /\ H q = some (.tup (p.2.1.map V.str)) /\ LQ RunQ H l (kn ((p.2.2.flatMap (runsE E)).take 121))
theorem CntQ.sm {H G:Hp} {d:Addr} {E:List Piece} (h:CntQ H d E) (s:Same H G):CntQ G d E:=let ⟨k,a,b,c⟩:=h; ⟨k,s _ _ a,b,c⟩
theorem PcsQ.sm {H G:Hp} {d:Addr} {E:List Piece} (h:PcsQ H d E) (s:Same H G):PcsQ G d E:=let ⟨k,a,b,c⟩:=h; ⟨k,s _ _ a,b,fun p hp => let ⟨v,e,q⟩:=c p hp; ⟨v,e,q.tk s.tk⟩⟩
theorem LpcQ.sm {H G:Hp} {d:Addr} {E:List Piece} (h:LpcQ H d E) (s:Same H G):LpcQ G d E:=let ⟨k,a,b,c⟩:=h; ⟨k,s _ _ a,b,fun p hp => let ⟨t,q,l,e,f,g,m⟩:=c p hp; ⟨t,q,l,e,s _ _ f,s _ _ g,m.sm RunQ.tk s⟩⟩
theorem put_len {kvs:List (Key×V)} {k:Key} {v:V}:(putK kvs k v).length <= kvs.length + 1:=by
  unfold putK
  split <;> simp
theorem fm_ext {E:List Piece} (hE:WfE E) {p q:Piece} (hp:WfP E p) (hq:q ∈ E):q.2.2.flatMap (runsE (p :: E)) = q.2.2.flatMap (runsE E):=fm_congr fun r hr => runs_ext (hE.row hq r hr) hp.2.2.2.2.2
theorem fm_ext0 {E:List Piece} {p:Piece} (hp:WfP E p):p.2.2.flatMap (runsE (p :: E)) = p.2.2.flatMap (runsE E):=fm_congr fun r hr => runs_ext (hp.1 r hr) hp.2.2.2.2.2
theorem CntQ.put {H:Hp} {d:Addr} {kvs:List (Key×V)} {E:List Piece} (hE:WfE E) {p:Piece} (hp:WfP E p) (hl:kvs.length <= E.length) (h:∀ p ∈ E,valV kvs (Sum.inr p.1) = some (.int ((p.2.2.flatMap (runsE E)).length:Int))) :
    CntQ (upd H d (.dK (putK kvs (Sum.inr p.1) (.int ((p.2.2.flatMap (runsE E)).length:Int))))) d (p :: E):=by
  refine ⟨_,upd_same,by have:=put_len (kvs:=kvs) (k:=Sum.inr p.1) (v:=.int ((p.2.2.flatMap (runsE E)).length:Int)); rw [List.length_cons]; omega,fun q hq => ?_⟩
  rw [valV_put]
  rcases List.mem_cons.mp hq with rfl | hq
  . rw [if_pos rfl,fm_ext0 hp]
  . rw [if_neg fun z => hp.2.2.2.2.2 q hq (Sum.inr.inj z),fm_ext hE hp hq]
    exact h q hq
theorem PcsQ.put {H G:Hp} {d:Addr} {v:V} {kvs:List (Key×V)} {E:List Piece} {p:Piece} (hp:WfP E p) (hl:kvs.length <= E.length) (h:∀ p ∈ E,∃ v,valV kvs (Sum.inr p.1) = some v /\ PieceQ H v p) (hv:PieceQ H v p) (t:TK H G) (g:G d = some (.dK (putK kvs (Sum.inr p.1) v))):PcsQ G d (p :: E):=by
  refine ⟨_,g,by have:=put_len (kvs:=kvs) (k:=Sum.inr p.1) (v:=v); rw [List.length_cons]; omega,fun q hq => ?_⟩
  rw [valV_put]
  rcases List.mem_cons.mp hq with rfl | hq
  . exact ⟨v,if_pos rfl,hv.tk t⟩
  . obtain ⟨u,e,f⟩:=h q hq
    exact ⟨u,by rw [if_neg fun z => hp.2.2.2.2.2 q hq (Sum.inr.inj z)]; exact e,f.tk t⟩
theorem env_le:∀ {gs:List GRow} {E:List Piece},E.length <= (envG E gs).length
  | [],_ => Nat.le_refl _
  | .one _ :: gs,E => env_le (gs:=gs)
  | .piece p :: gs,E => Nat.le_trans (Nat.le_succ _) (env_le (gs:=gs) (E:=p :: E))
noncomputable def GsQ (H:Hp) (l:Addr) (gs:List GRow):Prop:=∃ xs,H l = some (.lst xs) /\ Paired (GRowQ H) xs gs
theorem GsQ.sm {H G:Hp} {l:Addr} {gs:List GRow} (h:GsQ H l gs) (s:Same H G):GsQ G l gs:=let ⟨xs,a,b⟩:=h; ⟨xs,s _ _ a,Pd.imp b fun _ _ f => f.tk s.tk⟩
structure Built (gs:List GRow):Prop where
  wf:WfG [] gs
  few:gs.length <= 60
  env:(envG [] gs).length <= 8
theorem TRowQ.head {H:Hp} {v:V} {r:TRow} (h:TRowQ H v r):∃ p k xs,v = .ref p /\ H p = some (.tup (.str k :: xs)) /\ k ≠ "piece":=by
  cases r with
  | plain r =>
    obtain ⟨p,xs,e,h1⟩:=PRowQ.head h
    exact ⟨p,_,xs,e,h1,r.no_piece⟩
  | put nm cl as =>
    obtain ⟨p,q,e,h1,_⟩:=h
    exact ⟨p,_,_,e,h1,by decide +kernel⟩
theorem drop_at {α:Type} {gs:List α} {i:Nat} {g:α} (h:gs[i]? = some g):gs.drop i = g :: gs.drop (i + 1):=by
  obtain ⟨hi,e⟩:=List.getElem?_eq_some_iff.mp h
  rw [List.drop_eq_getElem_cons hi,e]
theorem LpcQ.put {H:Hp} {d t q l:Addr} {kvs:List (Key×V)} {E:List Piece} {p:Piece} (hE:WfE E) (hp:WfP E p) (hd:H d = some (.dK kvs)) (hl:kvs.length <= E.length)
    (h:∀ p ∈ E,∃ t q l,valV kvs (Sum.inr p.1) = some (.ref t) /\ H t = some (.tup [.ref q,.ref l]) /\ H q = some (.tup (p.2.1.map V.str)) /\ LQ RunQ H l (kn ((p.2.2.flatMap (runsE E)).take 121)))
    (h1:H t = some (.tup [.ref q,.ref l])) (h2:H q = some (.tup (p.2.1.map V.str))) (h3:LQ RunQ H l (kn ((p.2.2.flatMap (runsE E)).take 121))):LpcQ (upd H d (.dK (putK kvs (Sum.inr p.1) (.ref t)))) d (p :: E):=by
  have tk:=TK.dic (o:=.dK (putK kvs (Sum.inr p.1) (.ref t))) hd
  have kl:∀ {l:Addr} {n:List (Key×Key×Rat)},LQ RunQ H l n -> LQ RunQ (upd H d (.dK (putK kvs (Sum.inr p.1) (.ref t)))) l n:=fun {l n} ⟨vs,a,b⟩ => by
    refine ⟨vs,?_,Pd.imp b fun _ _ f => RunQ.tk f tk⟩
    rw [upd_ne fun z => by rw [z,hd] at a; cases a]
    exact a
  refine ⟨_,upd_same,by have:=put_len (kvs:=kvs) (k:=Sum.inr p.1) (v:=.ref t); rw [List.length_cons]; omega,fun x hx => ?_⟩
  rw [valV_put]
  rcases List.mem_cons.mp hx with rfl | hx
  . rw [fm_ext0 hp]
    exact ⟨t,q,l,if_pos rfl,tk _ _ h1,tk _ _ h2,kl h3⟩
  . obtain ⟨t',q',l',e,f,g,m⟩:=h x hx
    rw [fm_ext hE hp hx]
    exact ⟨t',q',l',by rw [if_neg fun z => hp.2.2.2.2.2 x hx (Sum.inr.inj z)]; exact e,tk _ _ f,tk _ _ g,kl m⟩
noncomputable def dTRow:TRow -> Dt
  | .plain r => dRow r
  | .put nm cl as => .tup [.str "put",.str nm,.str cl,.tup (as.map Dt.str)]
noncomputable def dGRow:GRow -> Dt
  | .one r => dTRow r
  | .piece p => .tup [.str "piece",.str p.1,.tup (p.2.1.map Dt.str),.tup (p.2.2.map dTRow)]
theorem TRowQ.den {H:Hp} {v:V}:∀ {r:TRow},TRowQ H v r -> Den H (dTRow r) v
  | .plain r,h => PRowQ.den h
  | .put nm cl as,⟨p,q,e,h,g⟩ => ⟨p,_,e,h,_,_,rfl,rfl,_,_,rfl,rfl,_,_,rfl,rfl,_,_,rfl,⟨q,_,rfl,g,den_ps as⟩,rfl⟩
theorem GRowQ.den {H:Hp} {v:V}:∀ {r:GRow},GRowQ H v r -> Den H (dGRow r) v
  | .one r,h => TRowQ.den h
  | .piece x,⟨p,q,z,xs,e,h,g,hz,pr⟩ => ⟨p,_,e,h,_,_,rfl,rfl,_,_,rfl,rfl,_,_,rfl,⟨q,_,rfl,g,den_ps _⟩,_,_,rfl,⟨z,_,rfl,hz,den_of (fun v b h => TRowQ.den h) pr⟩,rfl⟩
theorem dep_trow:∀ r:TRow,dep (dTRow r) <= 5
  | .plain r => dep_row r
  | .put _ _ as => by
    have:=dep_ps as
    simp only [dep,depL,dTRow]
    omega
theorem dep_le {α:Type} {f:α -> Dt} {B:Nat} (h:∀ b,dep (f b) <= B):∀ l:List α,depL (l.map f) <= B
  | [] => by simp [depL]
  | a :: l => by
    have h1:=h a
    have h2:=dep_le h l
    rw [List.map_cons]
    simp only [depL]
    omega
theorem dep_grow:∀ r:GRow,dep (dGRow r) <= 10
  | .one r => Nat.le_trans (dep_trow r) (by decide)
  | .piece p => by
    have h1:=dep_ps p.2.1
    have h2:=dep_le dep_trow p.2.2
    simp only [dep,depL,dGRow]
    omega
theorem den_gs {H:Hp} {l:Addr} {gs:List GRow} (h:GsQ H l gs):Den H (.lst (gs.map dGRow)) (.ref l):=let ⟨xs,a,b⟩:=h; ⟨l,xs,rfl,a,den_of (fun _ _ h => GRowQ.den h) b⟩
theorem n_gs {H:Hp} {Q:VK} {l1 l2:Addr} {gs:List GRow} (h1:GsQ H l1 gs) (h2:GsQ H l2 gs) (k:Q (.bl false) H):rNeA (.ref l1) (.ref l2) H Q:=by
  refine n_lst (den_gs h1) (den_gs h2) (Nat.le_trans (dep_le dep_grow gs) (by decide)) ?_
  obtain ⟨xs,_,b⟩:=h1
  have d:=den_of (fun _ _ h => GRowQ.den h) b
  rw [DenL.same_eq _ _ d d]
  exact k
theorem e_gs {H:Hp} {Q:VK} {l1 l2:Addr} {gs:List GRow} (h1:GsQ H l1 gs) (h2:GsQ H l2 gs) (k:Q (.bl true) H):rEqA (.ref l1) (.ref l2) H Q:=by
  refine e_lst (den_gs h1) (den_gs h2) (Nat.le_trans (dep_le dep_grow gs) (by decide)) ?_
  obtain ⟨xs,_,b⟩:=h1
  have d:=den_of (fun _ _ h => GRowQ.den h) b
  rw [DenL.same_eq _ _ d d]
  exact k
theorem e_gs0 {H:Hp} {Q:VK} {l1 l2:Addr} {gs:List GRow} (h1:GsQ H l1 gs) (h2:H l2 = some (.lst [])) (k:Q (.bl gs.isEmpty) H):rEqA (.ref l1) (.ref l2) H Q:=by
  refine e_lst (den_gs h1) (ds:=gs.map dGRow) (es:=[]) ⟨l2,_,rfl,h2,rfl⟩ (Nat.le_trans (dep_le dep_grow gs) (by decide)) ?_
  cases gs <;> exact k
theorem n_rs0 {H:Hp} {Q:VK} {l1 l2:Addr} {ys:List V} {rs:List TRow} (h1:H l1 = some (.lst ys)) (pr:Paired (TRowQ H) ys rs) (h2:H l2 = some (.lst [])) (k:Q (.bl (!rs.isEmpty)) H):rNeA (.ref l1) (.ref l2) H Q:=by
  refine n_lst (ds:=rs.map dTRow) (es:=[]) ⟨l1,_,rfl,h1,den_of (fun _ _ h => TRowQ.den h) pr⟩ ⟨l2,_,rfl,h2,rfl⟩ (Nat.le_trans (dep_le dep_trow rs) (by decide)) ?_
  cases rs <;> exact k
theorem e_rs0 {H:Hp} {Q:VK} {l1 l2:Addr} {ys:List V} {rs:List TRow} (h1:H l1 = some (.lst ys)) (pr:Paired (TRowQ H) ys rs) (h2:H l2 = some (.lst [])) (k:Q (.bl rs.isEmpty) H):rEqA (.ref l1) (.ref l2) H Q:=by
  refine e_lst (ds:=rs.map dTRow) (es:=[]) ⟨l1,_,rfl,h1,den_of (fun _ _ h => TRowQ.den h) pr⟩ ⟨l2,_,rfl,h2,rfl⟩ (Nat.le_trans (dep_le dep_trow rs) (by decide)) ?_
  cases rs <;> exact k
noncomputable def stK (lf lk:Addr) (vi:V) (u:Int):List (Key×V):=[(Sum.inr "found",.ref lf),(Sum.inr "known",.ref lk),(Sum.inr "inside",vi),(Sum.inr "used",.int u)]
section
variable {lf lk:Addr} {vi v:V} {u w:Int}
theorem st_found:valV (stK lf lk vi u) (Sum.inr "found") = some (.ref lf):=by with_unfolding_all rfl
theorem st_known:valV (stK lf lk vi u) (Sum.inr "known") = some (.ref lk):=by with_unfolding_all rfl
theorem st_inside:valV (stK lf lk vi u) (Sum.inr "inside") = some vi:=by with_unfolding_all rfl
theorem st_used:valV (stK lf lk vi u) (Sum.inr "used") = some (.int u):=by with_unfolding_all rfl
theorem st_pin:putK (stK lf lk vi u) (Sum.inr "inside") v = stK lf lk v u:=by with_unfolding_all rfl
theorem st_pus:putK (stK lf lk vi u) (Sum.inr "used") (.int w) = stK lf lk vi w:=by with_unfolding_all rfl
end
noncomputable def KnQ (H:Hp) (lk:Addr) (E:List Piece):Prop:=∃ ks,H lk = some (.lst ks) /\ Paired (fun v (p:Piece) => ∃ a,v = V.ref a /\ H a = some (.tup [.str p.1,.int (p.2.1.length:Int)])) ks E.reverse
theorem KnQ.sm {H G:Hp} {l:Addr} {E:List Piece} (h:KnQ H l E) (s:Same H G):KnQ G l E:=let ⟨ks,a,b⟩:=h; ⟨ks,s _ _ a,Pd.imp b fun _ _ ⟨x,e,f⟩ => ⟨x,e,s _ _ f⟩⟩
structure InsI (H0 H:Hp) (d lf lk:Addr) (U:List Str) (E:List Piece) (vi:V) (x:Piece):Prop where
  at_:∃ li q ls ys,vi = .ref li /\ H li = some (.lst [.str x.1,.ref q,.ref ls]) /\ H q = some (.tup (x.2.1.map V.str)) /\ H ls = some (.lst ys) /\ Paired (TRowQ H) ys x.2.2 /\ H0 li = none /\ H0 ls = none /\ li ≠ lf /\ li ≠ lk /\ li ≠ ls /\ ls ≠ lf /\ ls ≠ lk
  nm:x.1 ∈ U
  nw:∀ q ∈ E,q.1 ≠ x.1
  nd:x.2.1.Nodup
  le:1 <= x.2.1.length /\ x.2.1.length <= 8
  wf:∀ r ∈ x.2.2,WfT E r
  pb:∀ s ∈ x.1 :: x.2.1,partB s = true
noncomputable def InsQ (H0 H:Hp) (d lf lk:Addr) (U:List Str) (E:List Piece) (vi:V):Option Piece -> Prop
  | none => vi = .non
  | some x => InsI H0 H d lf lk U E vi x
noncomputable def insN:Option Piece -> Nat
  | none => 0
  | some x => x.2.2.length + 1
noncomputable def lnN:List GRow -> Nat
  | [] => 0
  | .one _ :: gs => lnN gs + 1
  | .piece p :: gs => lnN gs + p.2.2.length + 2
theorem ln_snoc:∀ (gs:List GRow) (g:GRow),lnN (gs ++ [g]) = lnN gs + lnN [g]
  | [],g => by show lnN [g] = 0 + _; omega
  | .one _ :: gs,g => by show lnN (gs ++ [g]) + 1 = lnN gs + 1 + _; rw [ln_snoc gs g]; omega
  | .piece p :: gs,g => by show lnN (gs ++ [g]) + p.2.2.length + 2 = lnN gs + p.2.2.length + 2 + _; rw [ln_snoc gs g]; omega
theorem ln_le:∀ gs:List GRow,gs.length <= lnN gs
  | [] => Nat.le_refl _
  | .one _ :: gs => by have:=ln_le gs; show gs.length + 1 <= lnN gs + 1; omega
  | .piece p :: gs => by have:=ln_le gs; show gs.length + 1 <= lnN gs + p.2.2.length + 2; omega
structure StI (H0 H:Hp) (d lf lk:Addr) (U:List Str) (gs:List GRow) (ins:Option Piece) (n:Nat):Prop where
  st:∃ vi u,H d = some (.dK (stK lf lk vi u)) /\ InsQ H0 H d lf lk U (envG [] gs) vi ins
  ne:lf ≠ lk
  fr:H0 d = none /\ H0 lf = none /\ H0 lk = none
  gq:GsQ H lf gs
  kq:KnQ H lk (envG [] gs)
  wf:WfG [] gs
  nm:∀ p ∈ envG [] gs,p.1 ∈ U
  le:lnN gs + insN ins <= n
theorem wf_env:∀ {gs:List GRow} {E:List Piece},WfE E -> WfG E gs -> WfE (envG E gs)
  | [],_,h,_ => h
  | .one _ :: gs,_,h,w => wf_env (gs:=gs) h w.2
  | .piece p :: gs,_,h,w => wf_env (gs:=gs) (E:=p :: _) ⟨w.1,h⟩ w.2
theorem env_nd:∀ {E:List Piece},WfE E -> (E.map (·.1)).Nodup
  | [],_ => List.nodup_nil
  | p :: E,h => by
    rw [List.map_cons,List.nodup_cons]
    refine ⟨fun z => ?_,env_nd h.2⟩
    obtain ⟨q,hq,e⟩:=List.mem_map.mp z
    exact h.1.2.2.2.2.2 q hq e
theorem env8 {U:List Str} (hU:U.length = 8) {E:List Piece} (h:WfE E) (hn:∀ p ∈ E,p.1 ∈ U):E.length <= 8:=by
  have:=nd_len (env_nd h) (fun x hx => by
    obtain ⟨p,hp,rfl⟩:=List.mem_map.mp hx
    exact hn p hp:∀ x ∈ E.map (·.1),x ∈ U)
  rw [List.length_map,hU] at this
  exact this
theorem StI.built {H0 H:Hp} {d lf lk:Addr} {U:List Str} {gs:List GRow} {ins:Option Piece} {n:Nat} (h:StI H0 H d lf lk U gs ins n) (hU:U.length = 8) (hn:n <= 60):Built gs :=
  ⟨h.wf,by have:=h.le; have:=ln_le gs; omega,env8 hU (wf_env (E:=[]) trivial h.wf) h.nm⟩
theorem StI.up {H0 H:Hp} {d lf lk:Addr} {U:List Str} {gs:List GRow} {ins:Option Piece} {n m:Nat} (h:StI H0 H d lf lk U gs ins n) (l:n <= m):StI H0 H d lf lk U gs ins m:=⟨h.st,h.ne,h.fr,h.gq,h.kq,h.wf,h.nm,Nat.le_trans h.le l⟩
theorem InsI.sm {H0 H G:Hp} {d lf lk:Addr} {U:List Str} {E:List Piece} {vi:V} {x:Piece} (h:InsI H0 H d lf lk U E vi x) (s:Same H G):InsI H0 G d lf lk U E vi x:=by
  obtain ⟨⟨li,q,ls,ys,e,h1,h2,h3,h4,h5⟩,b,c,d',e',f,pb⟩:=h
  exact ⟨⟨li,q,ls,ys,e,s _ _ h1,s _ _ h2,s _ _ h3,Pd.imp h4 fun _ _ f => f.tk s.tk,h5⟩,b,c,d',e',f,pb⟩
theorem StI.sm {H0 H G:Hp} {d lf lk:Addr} {U:List Str} {gs:List GRow} {ins:Option Piece} {n:Nat} (h:StI H0 H d lf lk U gs ins n) (s:Same H G):StI H0 G d lf lk U gs ins n:=by
  obtain ⟨⟨vi,u,hd,hi⟩,h2,h3,h4,h5,h6,h7,h8⟩:=h
  refine ⟨⟨vi,u,s _ _ hd,?_⟩,h2,h3,h4.sm s,h5.sm s,h6,h7,h8⟩
  cases ins with
  | none => exact hi
  | some x => exact InsI.sm hi s
noncomputable def nmAt (bef beh:Str) (x:Int) (i:Nat):Str:=bef ++ ⟨#[97 + ((x + 3 * (i:Int)) % 26).toNat]⟩ ++ beh
theorem nm_inj {bef beh:Str} {x:Int} {i j:Nat} (hi:i < 8) (hj:j < 8) (h:nmAt bef beh x i = nmAt bef beh x j):i = j:=by
  have e:=congrArg (fun s:Str => s.cps.toList) h
  have l:∀ k:Nat,(nmAt bef beh x k).cps.toList = bef.cps.toList ++ ((97 + ((x + 3 * (k:Int)) % 26).toNat) :: beh.cps.toList):=fun k => by
    show ((bef.cps ++ #[97 + ((x + 3 * (k:Int)) % 26).toNat]) ++ beh.cps).toList = _
    simp
  simp only [l] at e
  have e2:=(List.cons.inj (List.append_cancel_left e)).1
  omega
theorem nm_nd (bef beh:Str) (x:Int):((List.range 8).map (nmAt bef beh x)).Nodup:=by
  refine List.pairwise_map.mpr (List.nodup_range.imp_of_mem fun {a b} ha hb hab e => hab (nm_inj (List.mem_range.mp ha) (List.mem_range.mp hb) e))
theorem pick_nd {U:List Str} (hU:U.length = 8) (nd:U.Nodup) (x:Int) {m:Nat} (hm:m <= 8) {ps:List Str} (hl:ps.length = m) (h:∀ j,j < m -> ∃ s,ps[j]? = some s /\ U[((x + (j:Int)) % 8).toNat]? = some s):ps.Nodup:=by
  rw [List.nodup_iff_pairwise_ne,List.pairwise_iff_getElem]
  intro i j hi hj hij e
  obtain ⟨s,h1,h2⟩:=h i (by omega)
  obtain ⟨t,h3,h4⟩:=h j (by omega)
  rw [List.getElem?_eq_getElem hi] at h1
  rw [List.getElem?_eq_getElem hj] at h3
  cases h1
  cases h3
  rw [e] at h2
  have hi8:((x + (i:Int)) % 8).toNat < U.length:=by omega
  have hj8:((x + (j:Int)) % 8).toNat < U.length:=by omega
  rw [List.getElem?_eq_getElem hi8] at h2
  rw [List.getElem?_eq_getElem hj8] at h4
  have e2:U[((x + (i:Int)) % 8).toNat] = U[((x + (j:Int)) % 8).toNat]:=(Option.some.inj h2).trans (Option.some.inj h4).symm
  have pw:=List.pairwise_iff_getElem.mp nd
  rcases Nat.lt_trichotomy ((x + (i:Int)) % 8).toNat ((x + (j:Int)) % 8).toNat with z | z | z
  . exact pw _ _ hi8 hj8 z e2
  . omega
  . exact pw _ _ hj8 hi8 z e2.symm
theorem env_cnt:∀ (gs:List GRow) (E:List Piece),(envG E gs).length <= E.length + gs.length
  | [],_ => Nat.le_refl _
  | .one _ :: gs,E => Nat.le_trans (env_cnt gs E) (by rw [List.length_cons]; omega)
  | .piece p :: gs,E => Nat.le_trans (env_cnt gs (p :: E)) (by rw [List.length_cons,List.length_cons]; omega)
end L2
namespace L2
open PySem PySem.Spec PyProof.Rows
section
open Sem (wp)
variable {prog:Program} {w:World} {A:Around} {E:Value -> Shared -> Prop} {s:Shared} {z TI TO i1 i2 l1 l2:Addr} {k:Nat} {xs ys:Array Value}
variable {K:Type} [DecidableEq K] {knd:KeyKind prog w K}
end
end L2
namespace L2
open PySem PySem.Spec PyProof.Rows
section
open Sem (wp)
variable {prog:Program} {w:World} {A:Around} {E:Value -> Shared -> Prop}
theorem drawL {it t:Addr} {xs:Array Value} (hne:t ≠ it):∀ (n i:Nat) (s:Shared) (Q:List Value -> Shared -> Prop),s.heap.IsListIter it t i -> s.heap.IsList t xs -> i + n <= xs.size ->
    (∀ h',h'.IsListIter it t (i + n) -> h'.IsList t xs -> (∀ b o,b ≠ it -> s.heap.get? b = some o -> h'.get? b = some o) -> Q ((xs.toList.drop i).take n) { s with heap:=h' }) -> wpAny (model prog w) A (draw (.ref it) n) Q E s
  | 0,i,s,Q,g,hl,_,q => wpAny_pure (by simpa using q s.heap g hl fun _ _ _ e => e)
  | n + 1,i,s,Q,g,hl,le,q => by
    have lt:i < xs.size:=by omega
    show wpAny _ _ (pyNext (.ref it) >>= _) Q E s
    refine wpAny_bind (wpAny_pyNext_list_item g hl (x:=xs[i]) (by simp [lt]) fun h1 g1 c1 => ?_)
    refine wpAny_bind (wpAny_holding (drawL hne n (i + 1) _ _ g1 (hl.extBut c1.extBut hne) (by omega) fun h2 g2 l2 c2 => wpAny_pure ?_))
    have e:xs.toList.drop i = xs[i] :: xs.toList.drop (i + 1):=by simp [List.drop_eq_getElem_cons,lt]
    have:=q h2 (by rw [show i + (n + 1) = i + 1 + n by omega]; exact g2) l2 fun b o hb e => c2 b o hb (c1.extBut b o hb e)
    rw [e,List.take_succ_cons] at this
    exact this
theorem unpackL {s:Shared} {t:Addr} {xs:Array Value} {targets:List (Bool×(Value -> Sem Unit))} {Q:Unit -> Shared -> Prop} (hh:A.handled = none) (hl:s.heap.IsList t xs) (hn:targets.length = xs.size) (hs:targets.findIdx? (·.1) = none)
    (q:∀ h',(∀ b o,s.heap.get? b = some o -> h'.get? b = some o) -> wpAny (model prog w) A (assignInOrder (targets.map (·.2)) xs.toList) Q E { s with heap:=h' }):wpAny (model prog w) A (unpack (.ref t) targets) Q E s:=by
  have lt:t < s.heap.objs.size:=by obtain ⟨o,e,_⟩:=hl; exact Heap.lt_size e
  unfold unpack
  rw [hn,hs]
  refine wpAny_bind (wpAny_holding ?_)
  unfold unpackItems
  refine wpAny_bind ?_
  unfold notIterableAtAll
  refine wpAny_bind (wpAny_specialOf hl.typeIs F.slot_list_iter.lookup (wpAny_pure ?_))
  simp only [Bool.false_eq_true,if_false]
  refine wpAny_bind (wpAny_holding (wpAny_pyIter_list hl ?_))
  refine wpAny_bind (wpAny_holding (drawL (Nat.ne_of_lt lt) xs.size 0 _ _ ⟨_,Heap.get?_push_size _ rfl,rfl,rfl⟩ (hl.at fun o e => Heap.get?_push_of_some _ e) (by omega) fun h1 g1 l1 c1 => ?_))
  rw [show List.take xs.size (List.drop 0 xs.toList) = xs.toList by rw [List.drop_zero]; exact List.take_of_length_le (by simp),if_neg (by simp)]
  refine wpAny_bind (wpAny_holding (wpAny_pyNext_list_end hh g1 l1 (by simp) fun h2 c2 => ?_))
  simp only [Option.isSome_none,Bool.false_eq_true,if_false]
  have nb:∀ {b:Addr} {o:Obj},s.heap.get? b = some o -> b ≠ s.heap.objs.size:=fun e => Nat.ne_of_lt (Heap.lt_size e)
  exact wpAny_pure (q h2 fun b o e => c2 b o (nb e) (c1 b o (nb e) (Heap.get?_push_of_some _ e)))
end
section
variable {X:Cx}
noncomputable def gLst (K:PySem.W.Frag) (n:Nat) (t:TGs):TG:=fun v σ H Q => ∃ a xs,v = .ref a /\ SqL K H a xs /\ xs.length = n /\ t xs σ H Q
theorem pg_lst {es:List Expr} {k:Nat} {t:TGs} {n:Nat} {pos:Pos} (hc:X.calm = true) (h:PGs X es t)
    (hn:(assignEach es X.env).length = n:=by rfl) (hst:(assignEach es X.env).findIdx? (·.1) = none:=by rfl):PG X (.Tuple es k pos) (gLst X.K n t):=by
  intro pins s σ H v u Q I r hw
  obtain ⟨a,xs,e1,hq,hl,hw⟩:=hw
  subst e1
  cases r
  obtain ⟨its,rv,ht,hz⟩:=I.list hq
  rw [assign_Tuple]
  refine wpAny_bind (wpAny_standAt (unpackL (I.ok.hd hc) ht.isList (by simp [hn,← hl,rv.length]) hst fun h' hx => ?_))
  exact h pins _ σ H xs _ Q (I.kept (t':=s.toks) fun b o e => hx b o e) (by simpa using rv) hw
theorem r_gLst {K:PySem.W.Frag} {n:Nat} {t:TGs} {a:Addr} {xs:List V} {σ:St} {H:Hp} {Q:St -> Hp -> Prop} (h:H a = some (.lst xs)) (hl:xs.length = n) (k:t xs σ H Q):gLst K n t (.ref a) σ H Q:=⟨a,xs,rfl,SqL.of h,hl,k⟩
noncomputable def rJoinT:V -> List V -> Hp -> VK -> Prop:=fun x vs H Q => ∃ (z:Str) (l:Addr) (ys:List Str),x = .str z /\ vs = [.ref l] /\ H l = some (.tup (ys.map V.str)) /\ (ys.map (·.length)).sum + ys.length * z.length <= 16777216 /\ Q (.str (Str.join z ys)) H
theorem mt_joinT:MtR X "str.join" rJoinT:=by
  intro pins s σ H x vs v us Q I rx rv h
  obtain ⟨z,l,ys,rfl,rfl,hl,hs,q⟩:=h
  obtain ⟨t,rfl⟩:=rx
  obtain ⟨u,rfl,ru⟩:=rv.one
  cases ru
  obtain ⟨_,its,r,tp⟩:=I.hok l _ hl
  refine join_tuple tp (by simpa using vals_strs r) hs fun t' k => ?_
  have e1:Txt.join z ys = Str.join z ys:=StrLaws.glued_eq_join z ys
  rw [e1]
  exact ⟨.str _,H,I.tok _,⟨_,rfl⟩,q⟩
noncomputable def rStrI:List V -> Hp -> VK -> Prop:=fun vs H Q => ∃ i:Int,vs = [.int i] /\ i.natAbs < 10 ^ 18 /\ Q (.str (Str.ofString (toString i))) H
theorem c_strI:CallR X (.type "str") rStrI:=by
  intro pins s σ H vs us Q I r h
  obtain ⟨i,rfl,hi,q⟩:=h
  obtain ⟨u,rfl,ru⟩:=r.one
  obtain ⟨t,rfl⟩:=ru
  refine P.str_of_int ?_ ⟨.str _,H,I.tok _,⟨_,rfl⟩,q⟩
  by_cases e:i.natAbs = 0
  . rw [e]; decide
  . have:i.natAbs.log2 < 60:=(Nat.log2_lt e).mpr (Nat.lt_trans hi (by decide))
    omega
noncomputable def tJx:List TE -> Str -> TE
  | [],acc,_,H,Q => Q (.str acc) H
  | t :: r,acc,σ,H,Q => t σ H fun x H1 => ∃ y:Str,x = .str y /\ y.length <= 1000 /\ tJx r (acc ++ y) σ H1 Q
theorem joinsX_of {pins:List (Addr×Obj)} {σ:St} {Q:VK}:∀ {vs:List Expr} {ts:List TE} (_:PJs X vs ts) (n:Nat) (acc:Str) (s:Shared) (H:Hp),acc.length <= 1000 * n -> ts.length + n <= 100 -> Inv X pins σ H s -> tJx ts acc σ H Q ->
    Joins (model X.prog X.w) X.A X.xe (evalEach vs X.env) acc (fun out s₁ => out.length <= sizeLine /\ EP X pins σ Q (.str out s₁.toks) { s₁ with toks:=s₁.toks + 1 }) s
  | _,_,.nil,n,acc,s,H,ha,hn,I,h => ⟨by rw [sizeLine_eq]; omega,.str acc,H,I.tok _,⟨_,rfl⟩,h⟩
  | v :: vs,t :: ts,.cons hp r,n,acc,s,H,ha,hn,I,h => by
    show wpAny _ _ (eval v X.env) _ _ s
    rw [List.length_cons] at hn
    refine thn (hp pins s σ H _ I h) fun u s1 ⟨x,H1,I1,r1,y,e1,hy,q⟩ => ?_
    subst e1
    obtain ⟨tk,rfl⟩:=r1
    have hl:=len_plus acc y
    exact ⟨y,tk,rfl,by rw [hl,sizeLine_eq]; omega,joinsX_of r (n + 1) (acc ++ y) s1 H1 (by omega) (by omega) I1 q⟩
theorem pe_fsx {v1 v2:Expr} {rest:List Expr} {ts:List TE} {pos:Pos} (h:PJs X (v1 :: v2 :: rest) ts) (hn:ts.length <= 50):PE X (.JoinedStr (v1 :: v2 :: rest) pos) (tJx ts Str.empty):=by
  intro pins s σ H Q I hq
  exact wpAny_JoinedStr (joinsX_of h 0 Str.empty s H (Nat.le_refl _) (by omega) I hq)
noncomputable def tFmtS (te:TE):TE:=fun σ H Q => te σ H fun x H1 => ∃ y:Str,x = .str y /\ y.length <= 1000 /\ Q (.str y) H1
theorem pe_fms {e:Expr} {te:TE} {pos:Pos} (he:PE X e te):PE X (.FormattedValue e (-1) none pos) (tFmtS te):=by
  intro pins s σ H Q I h
  refine wpAny_FormattedValue_plain (thn (he pins s σ H _ I h) fun v s1 ⟨x,H1,I1,r1,y,e1,hy,q⟩ => ?_)
  subst e1
  obtain ⟨t,rfl⟩:=r1
  exact wpAny_formatField_str ⟨.str _,H1,I1,⟨_,rfl⟩,q⟩ ⟨.str _,H1,I1.tok _,⟨_,rfl⟩,q⟩ (by rw [sizeLine_eq]; omega)
theorem r_jx0 {σ:St} {H:Hp} {Q:VK} {acc:Str} (k:Q (.str acc) H):tJx [] acc σ H Q:=k
noncomputable def jxK (r:List TE) (acc:Str) (σ:St) (Q:VK):VK:=fun x H1 => ∃ y:Str,x = .str y /\ y.length <= 1000 /\ tJx r (acc ++ y) σ H1 Q
theorem r_jx {t:TE} {r:List TE} {acc:Str} {σ:St} {H:Hp} {Q:VK} (k:t σ H (jxK r acc σ Q)):tJx (t :: r) acc σ H Q:=k
theorem r_jxK {r:List TE} {acc:Str} {σ:St} {H:Hp} {Q:VK} {y:Str} (hy:y.length <= 1000) (k:tJx r (acc ++ y) σ H Q):jxK r acc σ Q (.str y) H:=⟨y,rfl,hy,k⟩
noncomputable def fsK (Q:VK):VK:=fun x H1 => ∃ y:Str,x = .str y /\ y.length <= 1000 /\ Q (.str y) H1
theorem r_fms {te:TE} {σ:St} {H:Hp} {Q:VK} (k:te σ H (fsK Q)):tFmtS te σ H Q:=k
theorem r_fsK {H:Hp} {Q:VK} {y:Str} (hy:y.length <= 1000) (k:Q (.str y) H):fsK Q (.str y) H:=⟨y,rfl,hy,k⟩
end
end L2
namespace L2
open PySem PySem.Spec PyProof.Rows
section
variable {prog:Program} {w:World} {A:Around} {E:Value -> Shared -> Prop} {s:Shared}
end
theorem len2Q {us:St} (h:us.length = 2):∃ a b,us = [a,b]:=by
  cases us with
  | nil => cases h
  | cons a us =>
    cases us with
    | nil => cases h
    | cons b us =>
      cases us with
      | nil => exact ⟨a,b,rfl⟩
      | cons c us => cases h
section
variable {K:PySem.W.Frag} {σ:St} {H:Hp} {D:Ends} {Q:VK} {te:TE} {caps:St}
theorem r_forTp {a:Addr} {xs:List V} {g:TG} {tb:TS} (Pv:Nat -> St -> Hp -> Prop) (h0:Pv 0 σ H) (hl:∀ i σ H,i <= xs.length -> Pv i σ H -> SqT K H a xs)
    (hs:∀ i x σ H,xs[i]? = some x -> Pv i σ H -> g x σ H fun σ2 H2 => tb ⟨Pv (i + 1),D.rt,D.nx,Pv (i + 1)⟩ σ2 H2) (hd:∀ σ H,Pv xs.length σ H -> D.nx σ H):forK g tb D σ (Itt K a) H:=for_tup Pv h0 hl hs hd
theorem r_compQ {a:Addr} {xs:List V} (hn:xs.length <= 1000) (Pv:Addr -> Nat -> List V -> Hp -> Prop) (h0:∀ acc,H acc = none -> Pv acc 0 [] (upd H acc (.lst []))) (hl':∀ acc i ys H1,H acc = none -> i <= xs.length -> Pv acc i ys H1 -> SqL K H1 a xs)
    (hs:∀ acc i ys H1 x,H acc = none -> xs[i]? = some x -> ys.length = i -> H1 acc = some (.lst ys) -> Pv acc i ys H1 -> ∃ p u v,x = .ref p /\ H1 p = some (.tup [u,v]) /\ te (some u :: some v :: caps) H1 (cNext xs.length acc (Pv acc) ys i))
    (hd:∀ acc ys H1,H acc = none -> H1 acc = some (.lst ys) -> ys.length = xs.length -> Pv acc xs.length ys H1 -> Q (.ref acc) H1):compK te none (gTup K 2 (gCons (gName 0) (gCons (gName 1) gNil))) (List.replicate 2 none) caps Q (Itl K a) H:=by
  intro acc hacc
  refine ⟨cW xs.length acc (Pv acc),⟨xs.length,by simp,Nat.zero_le _,rfl,upd_same,h0 acc hacc⟩,fun i m ys H1 hW => ?_⟩
  obtain ⟨rfl,hi,hl,ha,p⟩:=hW
  have q:=hl' acc i ys H1 hacc hi p
  refine ⟨ha,?_⟩
  rcases Nat.lt_or_ge i xs.length with hlt | hge
  . refine .inr ⟨small1000 (by omega),⟨xs,xs[i],q,by simp [hlt]⟩,fun us x H' hu z => ?_⟩
    obtain ⟨rfl,z⟩:=z
    obtain ⟨o1,o2,rfl⟩:=len2Q hu
    obtain ⟨b,u,v,rfl,hb,k⟩:=hs acc i ys H' x hacc (z xs q) hl ha p
    exact ⟨b,_,rfl,SqT.of hb,rfl,u,[v],rfl,v,[],rfl,rfl,⟨[some u,some v],rfl,rfl⟩,k⟩
  . cases (Nat.le_antisymm hi hge:i = xs.length)
    exact .inl ⟨⟨xs,q,Nat.le_refl _⟩,hd acc ys H1 hacc ha hl p⟩
end
noncomputable def tBMT (r:V -> List V -> Hp -> VK -> Prop) (to:TE) (t:TA):TE:=fun σ H Q => to σ H fun x H1 => (∃ p xs,x = .ref p /\ H1 p = some (.tup xs)) /\ t σ H1 fun vs H2 => r x vs H2 Q
noncomputable def bmUK (r:V -> List V -> Hp -> VK -> Prop) (t:TA) (σ:St) (Q:VK):VK:=fun x H1 => (∃ p xs,x = .ref p /\ H1 p = some (.tup xs)) /\ t σ H1 fun vs H2 => r x vs H2 Q
theorem r_bmu {σ:St} {H:Hp} {Q:VK} {r:V -> List V -> Hp -> VK -> Prop} {to:TE} {t:TA} (k:to σ H (bmUK r t σ Q)):tBMT r to t σ H Q:=k
theorem r_bmuK {σ:St} {H:Hp} {Q:VK} {r:V -> List V -> Hp -> VK -> Prop} {t:TA} {l:Addr} {xs:List V} (h:H l = some (.tup xs)) (k:t σ H fun vs H2 => r (.ref l) vs H2 Q):bmUK r t σ Q (.ref l) H:=⟨⟨l,xs,rfl,h⟩,k⟩
noncomputable def dspQ (p:Addr) (Q:VK) (x1 y1 x2 y2 x3 y3 x4 y4:V) (H4:Hp):Prop:=H4 p = some (.dK []) /\ ∃ kvs:List (Key×V),[(x1,y1),(x2,y2),(x3,y3),(x4,y4)] = kvs.map (fun kv => (kV kv.1,kv.2)) /\ kvs.length <= 15 /\ Q (.ref p) (upd H4 p (.dK (mergeK [] kvs)))
theorem r_dispQ {σ:St} {H:Hp} {Q:VK} {k1 v1 k2 v2 k3 v3 k4 v4:TE} (k:∀ p,H p = none -> k1 σ (upd H p (.dK [])) fun x1 H1 => v1 σ H1 fun y1 H2 => k2 σ H2 fun x2 H3 => v2 σ H3 fun y2 H4 => k3 σ H4 fun x3 H5 => v3 σ H5 fun y3 H6 => k4 σ H6 fun x4 H7 => v4 σ H7 fun y4 H8 => dspQ p Q x1 y1 x2 y2 x3 y3 x4 y4 H8):tDisp [(k1,v1),(k2,v2),(k3,v3),(k4,v4)] σ H Q:=k
theorem dspQ_st {p lf lk:Addr} {H:Hp} {Q:VK} (h:H p = some (.dK [])) (k:Q (.ref p) (upd H p (.dK (stK lf lk .non 0)))):dspQ p Q (.str "found") (.ref lf) (.str "known") (.ref lk) (.str "inside") .non (.str "used") (.int 0) H :=
  ⟨h,stK lf lk .non 0,rfl,Nat.le_of_ble_eq_true rfl,by
    rw [mergeK_nd (by rw [List.nil_append]; show (([Sum.inr "found",Sum.inr "known",Sum.inr "inside",Sum.inr "used"]:List Key)).Nodup; decide +kernel),List.nil_append]
    exact k⟩
section
variable {K:PySem.W.Frag} {H:Hp} {Q:VK} {p:Addr} {a b c d:V}
theorem s_3of4 (h:H p = some (.tup [a,b,c,d])) (k:∀ l,H l = none -> Q (.ref l) (upd H l (.tup [a,b,c]))):rSlA K (.ref p) none (some 3) H Q:=by
  have e2:HT.sIx 4 4 (some 3) = 3:=by decide
  refine s_tup h ?_ ?_
  . show ¬ (_ /\ HT.sIx 4 4 (some 3) = 4)
    rw [e2]
    exact fun z => absurd z.2 (by decide)
  . rw [show cutV [a,b,c,d] none (some 3) = [a,b,c] from cut_n (xs:=[a,b,c,d]) 3]
    exact k
end
theorem r_ifJ {tc:TT} {t u:TS} {D:Ends} {σ:St} {H:Hp} (J:Hp -> Prop) (hJ:∀ H1,J H1 -> u D σ H1) (k:∀ NB:Hp -> Prop,(∀ H1,J H1 -> NB H1) -> tc σ H fun b H1 => if b = true then t D σ H1 else NB H1):tIfS tc t u D σ H:=k _ hJ
end L2
namespace L2
open PySem PySem.Spec PyProof.Rows PySem.StrLaws
open PySem.Builtin.Str (strSub subAt occurrences partsBetween)
noncomputable def jnL (s:List Nat):List (List Nat) -> List Nat
  | [] => []
  | [x] => x
  | x :: y :: r => x ++ s ++ jnL s (y :: r)
theorem join_jn (s:Str):∀ xs:List Str,(Str.join s xs).cps.toList = jnL s.cps.toList (xs.map fun x => x.cps.toList)
  | [] => rfl
  | [x] => rfl
  | x :: y :: r => by
    show (((x.cps ++ s.cps) ++ (Str.join s (y :: r)).cps):Array Nat).toList = x.cps.toList ++ s.cps.toList ++ jnL s.cps.toList ((y :: r).map fun x => x.cps.toList)
    rw [← join_jn s (y :: r)]
    simp
theorem at_sub {T sep:Str} {k:Nat} (h:At T sep T.length k):(T.cps.toList.drop k).take sep.length = sep.cps.toList:=by
  have:=h.2
  rw [subAt_eq] at this
  exact eq_of_beq this
theorem at_of {T sep:Str} {k:Nat} {X:List Nat} (hk:k <= T.length) (h:T.cps.toList.drop k = sep.cps.toList ++ X):At T sep T.length k:=by
  have hl:sep.length = sep.cps.toList.length:=len_cps sep
  have e:=congrArg List.length h
  rw [List.length_drop,List.length_append,← len_cps,← hl] at e
  refine ⟨?_,?_⟩
  . omega
  . rw [subAt_eq,h,hl,List.take_left]
    exact beq_self_eq_true _
theorem parts_jn {T sep:Str} {A B:List Nat} {c:Nat} (hs:sep.cps.toList = A ++ c :: B) (hA:c ∉ A):∀ (ls:List (List Nat)) (cuts:List Nat) (a f:Nat),ls ≠ [] -> (∀ l ∈ ls,c ∉ l) -> T.cps.toList.drop a = jnL sep.cps.toList ls -> a <= T.length -> ChainG T sep T.length a cuts f -> (∀ k,f <= k -> ¬ At T sep T.length k) ->
    (partsFrom T sep.length a cuts).map (fun x => x.cps.toList) = ls
  | [],_,_,_,h,_,_,_,_,_ => absurd rfl h
  | [l],cuts,a,f,_,hl,hT,ha,hG,hn => by
    have none:∀ k,a <= k -> ¬ At T sep T.length k:=fun k hk h => by
      have e:=at_sub h
      have hm:c ∈ (T.cps.toList.drop k).take sep.length:=by rw [e,hs]; simp
      have hm2:=List.mem_of_mem_take hm
      have:T.cps.toList.drop k = (T.cps.toList.drop a).drop (k - a):=by rw [List.drop_drop]; congr 1; omega
      rw [this,hT] at hm2
      exact hl l (by simp) (List.mem_of_mem_drop hm2)
    cases cuts with
    | nil =>
      show [(strSub T a T.length).cps.toList] = [l]
      rw [strSub_toList,hT,List.take_of_length_le]
      . rfl
      . have:=congrArg List.length hT
        rw [List.length_drop,← len_cps] at this
        show l.length <= _
        have e2:(jnL sep.cps.toList [l]).length = l.length:=rfl
        omega
    | cons d r => exact absurd hG.2.1 (none d hG.1)
  | l :: l2 :: r,cuts,a,f,_,hl,hT,ha,hG,hn => by
    have hT':T.cps.toList.drop a = l ++ sep.cps.toList ++ jnL sep.cps.toList (l2 :: r):=hT
    have hlen:=congrArg List.length hT'
    rw [List.length_drop,List.length_append,List.length_append,← len_cps,← len_cps] at hlen
    have dr:T.cps.toList.drop (a + l.length) = sep.cps.toList ++ jnL sep.cps.toList (l2 :: r):=by
      rw [← List.drop_drop,hT',List.append_assoc,List.drop_left]
    have dr2:T.cps.toList.drop (a + l.length + sep.length) = jnL sep.cps.toList (l2 :: r):=by
      rw [← List.drop_drop,dr,len_cps sep,List.drop_left]
    have hat:At T sep T.length (a + l.length):=at_of (by omega) dr
    have early:∀ k,a <= k -> k < a + l.length -> ¬ At T sep T.length k:=fun k hk hk2 h => by
      have e:=at_sub h
      -- the sign c at place k + A.length
      have e1:((T.cps.toList.drop k).take sep.length)[A.length]? = some c:=by rw [e,hs]; simp
      have hsl:A.length < sep.length:=by rw [len_cps,hs]; simp
      rw [List.getElem?_take_of_lt hsl,List.getElem?_drop] at e1
      have e2:(T.cps.toList.drop a)[k - a + A.length]? = some c:=by rw [List.getElem?_drop,← e1]; congr 1; omega
      rw [hT',hs,List.append_assoc] at e2
      have e3:(l ++ A)[k - a + A.length]? = some c:=by
        rw [show l ++ (A ++ c :: B ++ jnL (A ++ c :: B) (l2 :: r)) = (l ++ A) ++ (c :: B ++ jnL (A ++ c :: B) (l2 :: r)) by simp] at e2
        rwa [List.getElem?_append_left (by rw [List.length_append]; omega)] at e2
      rcases List.mem_append.mp (List.mem_of_getElem? e3) with h | h
      . exact hl l (by simp) h
      . exact hA h
    cases cuts with
    | nil =>
      have:f = a:=hG
      exact absurd hat (hn _ (by omega))
    | cons d r' =>
      obtain ⟨g1,g2,g3,g4⟩:=hG
      have ed:d = a + l.length:=by
        rcases Nat.lt_trichotomy d (a + l.length) with h | h | h
        . exact absurd g2 (early d g1 h)
        . exact h
        . exact absurd hat (g3 _ (by omega) h)
      subst ed
      show (strSub T a (a + l.length)).cps.toList :: _ = _
      rw [strSub_toList,hT',show a + l.length - a = l.length by omega,List.append_assoc,List.take_left]
      have ih:=parts_jn hs hA (l2 :: r) r' (a + l.length + sep.length) f (List.cons_ne_nil _ _) (fun x hx => hl x (List.mem_cons_of_mem _ hx)) dr2 (by omega) g4 hn
      exact congrArg _ ih
theorem split_join {sep:Str} {A B:List Nat} {c:Nat} (hs:sep.cps.toList = A ++ c :: B) (hA:c ∉ A) (hk:Builtin.Str.strKind sep = 1) {ls:List Str} (hne:ls ≠ []) (hl:∀ l ∈ ls,c ∉ l.cps.toList):Txt.split (Str.join sep ls) sep = ls:=by
  have h1:1 <= sep.length:=by rw [len_cps,hs,List.length_append,List.length_cons]; omega
  obtain ⟨f,hG,hn⟩:=occ_tight (Str.join sep ls) sep h1
  have key:=parts_jn (T:=Str.join sep ls) hs hA (ls.map fun x => x.cps.toList) _ 0 f (by simpa using hne) (fun l h => by
    obtain ⟨x,hx,rfl⟩:=List.mem_map.mp h
    exact hl x hx) (by rw [List.drop_zero]; exact join_jn sep ls) (Nat.zero_le _) hG hn
  have back:∀ {xs ys:List Str},xs.map (fun x => x.cps.toList) = ys.map (fun x => x.cps.toList) -> xs = ys:=by
    intro xs
    induction xs with
    | nil => intro ys h; cases ys with | nil => rfl | cons y ys => simp at h
    | cons x xs ih =>
      intro ys h
      cases ys with
      | nil => simp at h
      | cons y ys =>
        rw [List.map_cons,List.map_cons] at h
        obtain ⟨h1,h2⟩:=List.cons.inj h
        rw [ih h2,show x = y from by obtain ⟨a⟩:=x; obtain ⟨b⟩:=y; exact congrArg Str.mk (Array.toList_inj.mp h1)]
  unfold Txt.split
  have nok:¬ Builtin.Str.strKind (Str.join sep ls) < Builtin.Str.strKind sep:=by
    rw [hk]
    unfold Builtin.Str.strKind
    split
    . omega
    . split <;> omega
  split
  . rename_i h
    rw [Bool.or_eq_true,decide_eq_true_iff,decide_eq_true_iff] at h
    rcases h with h | h
    . -- a text shorter than what parts it has no place for it
      cases hc:occurrences (Str.join sep ls) sep 0 (Str.join sep ls).length ((Str.join sep ls).length + 1) with
      | nil =>
        rw [hc] at key
        refine back ?_
        rw [← key]
        show _ = [(strSub _ 0 _).cps.toList]
        rw [sub_whole]
        rfl
      | cons d r =>
        rw [hc] at hG
        have:=hG.2.1.1
        omega
    . exact absurd h nok
  . split
    . rename_i h
      rw [List.isEmpty_iff.mp h] at key
      refine back ?_
      rw [← key]
      show _ = [(strSub _ 0 _).cps.toList]
      rw [sub_whole]
      rfl
    . rw [partsBetween_eq]
      exact back key
end L2
namespace L2
open PySem PySem.Spec PyProof.Rows
noncomputable def numS (n:Int):Str:=Str.ofString (toString n)
noncomputable def DigS (z:Str):Prop:=∀ c ∈ z.cps.toList,48 <= c /\ c < 58
theorem num_cps (m:Nat):(numS (m:Int)).cps.toList = (Nat.toDigits 10 m).map Char.toNat:=PySem.W.KIN.signs_num m
theorem num_dig {n:Int} (h:0 <= n):DigS (numS n):=by
  obtain ⟨m,rfl⟩:=Int.eq_ofNat_of_zero_le h
  intro c hc
  rw [num_cps] at hc
  obtain ⟨ch,hch,rfl⟩:=List.mem_map.mp hc
  have r:=Nat.isDigit_of_mem_toDigits (b:=10) (by decide) (by decide) hch
  simp only [Char.isDigit,Bool.and_eq_true,decide_eq_true_eq] at r
  have r1:48 <= ch.toNat:=r.1
  have r2:ch.toNat <= 57:=r.2
  exact ⟨r1,by omega⟩
theorem num_len {n:Int} (h0:0 <= n) (h1:n < 10 ^ 12):1 <= (numS n).length /\ (numS n).length <= 12:=by
  refine ⟨?_,PyProof.Rows.toString_length_le h0 (by decide) h1⟩
  obtain ⟨m,rfl⟩:=Int.eq_ofNat_of_zero_le h0
  rw [len_cps,num_cps,List.length_map]
  cases e:Nat.toDigits 10 m with
  | nil =>
    have:=PySem.W.KIN.val_back m
    rw [e] at this
    have h2:m = 0:=this.symm
    subst h2
    cases e
  | cons a b => simp
theorem dig_hd:∀ m:Nat,1 <= m -> ∃ c r,(Nat.toDigits 10 m).map Char.toNat = c :: r /\ c ≠ 48:=by
  intro m
  induction m using Nat.strongRecOn with
  | _ m ih =>
    intro hm
    by_cases h:m < 10
    . rw [Nat.toDigits_of_lt_base h]
      refine ⟨_,[],rfl,?_⟩
      have:m = 1 ∨ m = 2 ∨ m = 3 ∨ m = 4 ∨ m = 5 ∨ m = 6 ∨ m = 7 ∨ m = 8 ∨ m = 9:=by omega
      rcases this with rfl | rfl | rfl | rfl | rfl | rfl | rfl | rfl | rfl <;> decide
    . have hm':m % 10 < 10:=Nat.mod_lt m (by decide)
      have t:Nat.toDigits 10 (m / 10) ++ Nat.toDigits 10 (m % 10) = Nat.toDigits 10 (10 * (m / 10) + m % 10):=Nat.toDigits_append_toDigits (by decide) (by omega) hm'
      rw [Nat.div_add_mod] at t
      obtain ⟨c,r,e,hc⟩:=ih (m / 10) (by omega) (by omega)
      rw [← t,List.map_append,e]
      exact ⟨c,_,rfl,hc⟩
theorem num_hd {n:Int} (h:1 <= n):∃ c r,(numS n).cps.toList = c :: r /\ c ≠ 48:=by
  obtain ⟨m,rfl⟩:=Int.eq_ofNat_of_zero_le (show 0 <= n by omega)
  obtain ⟨c,r,e,hc⟩:=dig_hd m (by omega)
  exact ⟨c,r,by rw [num_cps,e],hc⟩
theorem num_int {n:Int} (h0:0 <= n) (h1:n < 10 ^ 12):PySem.intText? (numS n) = some n:=by
  have hl:=(num_len h0 h1).2
  have hd:=num_dig h0
  obtain ⟨m,rfl⟩:=Int.eq_ofNat_of_zero_le h0
  have hne:(numS (m:Int)).cps.toList ≠ []:=by
    have:=(num_len h0 h1).1
    intro e
    rw [len_cps,e] at this
    exact absurd this (by decide)
  have e:=PySem.intText_digits (x:=numS (m:Int)) (fun c hc => ⟨(hd c hc).1,by have:=(hd c hc).2; omega⟩) hne (by omega)
  rw [num_cps,PySem.W.KIN.val_back] at e
  exact e
noncomputable def tmS (q:Rat):Str:=if q.den = 1 then numS q.num else numS q.num ++ ⟨#[47]⟩ ++ numS (q.den:Int)
noncomputable def WdS (z:Str):Prop:=32 ∉ z.cps.toList /\ 59 ∉ z.cps.toList /\ z.length <= 100
theorem cps_cat (x y:Str):(x ++ y).cps.toList = x.cps.toList ++ y.cps.toList:=by
  show (x.cps ++ y.cps).toList = _
  simp
theorem DigS.no {z:Str} (h:DigS z) {c:Nat} (hc:c < 48 ∨ 58 <= c):c ∉ z.cps.toList:=fun m => by have:=h c m; omega
theorem TimR.num {q:Rat} (h:TimR q):1 <= q.num /\ q.num < 10 ^ 12:=by
  have h0:=Rat.num_nonneg.mpr (Rat.le_of_lt h.1)
  have h1:q.num ≠ 0:=fun z => Rat.ne_of_gt h.1 (Rat.num_eq_zero.mp z)
  have:=h.2.1
  omega
theorem TimR.den {q:Rat} (h:TimR q):1 <= (q.den:Int) /\ (q.den:Int) < 10 ^ 12:=by
  have:=q.den_pos
  have:=h.2.2
  omega
theorem tm_wd {q:Rat} (h:TimR q):WdS (tmS q):=by
  have d1:=num_dig (n:=q.num) (by have:=h.num; omega)
  have d2:=num_dig (n:=(q.den:Int)) (by have:=h.den; omega)
  have l1:=num_len (n:=q.num) (by have:=h.num; omega) h.num.2
  have l2:=num_len (n:=(q.den:Int)) (by have:=h.den; omega) h.den.2
  unfold tmS
  split
  . exact ⟨d1.no (by omega),d1.no (by omega),by omega⟩
  . have no:∀ c:Nat,c ≠ 47 -> (c < 48 ∨ 58 <= c) -> c ∉ (numS q.num ++ ⟨#[47]⟩ ++ numS (q.den:Int)).cps.toList:=fun c h1 h2 => by
      rw [cps_cat,cps_cat]
      intro m
      rcases List.mem_append.mp m with m | m
      . rcases List.mem_append.mp m with m | m
        . exact d1.no h2 m
        . exact h1 (by simpa using m)
      . exact d2.no h2 m
    refine ⟨no 32 (by decide) (by omega),no 59 (by decide) (by omega),?_⟩
    rw [len_app,len_app,show (⟨#[47]⟩:Str).length = 1 from rfl]
    omega
theorem tm_split {q:Rat} (h:TimR q):Txt.split (tmS q) ⟨#[47]⟩ = if q.den = 1 then [numS q.num] else [numS q.num,numS (q.den:Int)]:=by
  have d1:=num_dig (n:=q.num) (by have:=h.num; omega)
  have d2:=num_dig (n:=(q.den:Int)) (by have:=h.den; omega)
  unfold tmS
  split
  . exact split_join (sep:=⟨#[47]⟩) (A:=[]) (B:=[]) (c:=47) rfl (by simp) (by decide +kernel) (ls:=[numS q.num]) (by simp) (fun l hl => by rw [List.mem_singleton.mp hl]; exact d1.no (by omega))
  . exact split_join (sep:=⟨#[47]⟩) (A:=[]) (B:=[]) (c:=47) rfl (by simp) (by decide +kernel) (ls:=[numS q.num,numS (q.den:Int)]) (by simp) (fun l hl => by
      rcases List.mem_cons.mp hl with rfl | hl
      . exact d1.no (by omega)
      . rw [List.mem_singleton.mp hl]; exact d2.no (by omega))
theorem jn_mem {P:Nat -> Prop} {s:List Nat} {c:Nat} (h2:∀ d ∈ s,P d):∀ {ls:List (List Nat)},(∀ l ∈ ls,∀ d ∈ l,P d) -> c ∈ jnL s ls -> P c
  | [],_,hc => by cases hc
  | [x],h1,hc => h1 x (by simp) c hc
  | x :: y :: r,h1,hc => by
    replace hc:c ∈ x ++ s ++ jnL s (y :: r):=hc
    rcases List.mem_append.mp hc with hc | hc
    . rcases List.mem_append.mp hc with hc | hc
      . exact h1 x (by simp) c hc
      . exact h2 c hc
    . exact jn_mem h2 (ls:=y :: r) (fun l hl => h1 l (List.mem_cons_of_mem _ hl)) hc
theorem post_wd {s:Str} (h:PostS s):WdS s:=by
  have hp:=okNm.post h
  have j:=StrLaws.join_split s ⟨#[46]⟩
  have hall:∀ c ∈ s.cps.toList,c = 46 ∨ (97 <= c /\ c < 123):=by
    intro c hc
    rw [← j,join_jn] at hc
    refine jn_mem (P:=fun c => c = 46 ∨ (97 <= c /\ c < 123)) (fun d hd => .inl (by simpa using hd)) (fun l hl d hd => ?_) hc
    obtain ⟨x,hx,rfl⟩:=List.mem_map.mp hl
    have:=hp.1 x hx
    unfold partB at this
    rw [Bool.and_eq_true,List.all_eq_true] at this
    have:=this.2 d hd
    rw [Bool.and_eq_true,decide_eq_true_iff,decide_eq_true_iff] at this
    exact .inr this
  refine ⟨fun m => ?_,fun m => ?_,h.2⟩
  . have:=hall _ m; omega
  . have:=hall _ m; omega
noncomputable def wdsP:PRow -> List Str
  | .run a b t => ["run",a,b,tmS t]
  | .path k t ps => k.nm :: tmS t :: ps
noncomputable def wdsT:TRow -> List Str
  | .plain r => wdsP r
  | .put nm cl as => "put" :: nm :: cl :: as
noncomputable def linesG:GRow -> List (List Str)
  | .one r => [wdsT r]
  | .piece p => ("piece" :: p.1 :: p.2.1) :: (p.2.2.map wdsT ++ [[("end":Str)]])
noncomputable abbrev sp1:Str:=Str.ofString " "
noncomputable abbrev sp3:Str:=Str.ofString " ; "
noncomputable def textL (ls:List (List Str)):Str:=Str.join sp3 (ls.map (Str.join sp1))
theorem sp1_cps:sp1.cps.toList = [] ++ 32 :: []:=by decide +kernel
theorem sp3_cps:sp3.cps.toList = [32] ++ 59 :: [32]:=by decide +kernel
theorem line_split {ws:List Str} (hne:ws ≠ []) (h:∀ w ∈ ws,WdS w):Txt.split (Str.join sp1 ws) sp1 = ws:=split_join sp1_cps (by simp) (by decide +kernel) hne fun l hl => (h l hl).1
theorem text_split {ls:List (List Str)} (hne:ls ≠ []) (h:∀ ws ∈ ls,∀ w ∈ ws,WdS w):Txt.split (textL ls) sp3 = ls.map (Str.join sp1):=by
  refine split_join sp3_cps (by decide) (by decide +kernel) (by simpa using hne) fun l hl => ?_
  obtain ⟨ws,hws,rfl⟩:=List.mem_map.mp hl
  intro m
  rw [join_jn] at m
  have:=jn_mem (P:=fun c => c ≠ 59) (fun d hd => by
    rw [sp1_cps] at hd
    have:d = 32:=by simpa using hd
    omega) (fun l hl d hd => by
    obtain ⟨x,hx,rfl⟩:=List.mem_map.mp hl
    exact fun e => (h ws hws x hx).2.1 (by rw [← e]; exact hd)) m
  exact this rfl
theorem figures_mem (c:Nat):decide (c ∈ ("0123456789":Str).cps.toList) = (decide (48 <= c) && decide (c < 58)):=by
  have e:("0123456789":Str).cps.toList = List.range' 48 10:=by decide +kernel
  rw [e,Bool.eq_iff_iff,Bool.and_eq_true,decide_eq_true_iff,decide_eq_true_iff,decide_eq_true_iff]
  exact List.mem_range'_1
noncomputable def rIntS:List V -> Hp -> VK -> Prop:=fun vs H Q => ∃ (z:Str) (n:Int),vs = [.str z] /\ PySem.intText? z = some n /\ z.length <= 640 /\ Q (.int n) H
theorem c_intS {X:Cx}:CallR X (.type "int") rIntS:=by
  intro pins s σ H vs us Q I r h
  obtain ⟨z,n,rfl,hz,hl,q⟩:=h
  obtain ⟨u,rfl,ru⟩:=r.one
  obtain ⟨t,rfl⟩:=ru
  exact PySem.W.KIN.call_text hz hl ⟨.int _,H,I.tok _,⟨_,rfl⟩,q⟩
theorem cut_from {xs:List V} (n:Nat) (h:n <= xs.length):cutV xs (some (n:Int)) none = xs.drop n:=by
  unfold cutV
  have e1:HT.sIx xs.length xs.length none = xs.length:=rfl
  have e2:HT.sIx xs.length 0 (some (n:Int)) = n:=by
    unfold HT.sIx
    dsimp only
    split <;> omega
  rw [e1,e2,List.take_of_length_le (by rw [List.length_drop]; omega)]
noncomputable def fpK:List (Key×V):=[(Sum.inr "row",.int 2),(Sum.inr "star",.int 2),(Sum.inr "ring",.int 3)]
noncomputable def fpN:RKind -> Int
  | .ring => 3
  | _ => 2
theorem fp_path (k:RKind):valV fpK (Sum.inr k.nm) = some (.int (fpN k)):=by cases k <;> with_unfolding_all rfl
theorem fp_put:valV fpK (Sum.inr "put") = none:=by with_unfolding_all rfl
noncomputable def CdQ (H:Hp) (d:Addr) (E:List Piece):Prop:=∃ kd,H d = some (.dK kd) /\ kd.length <= E.length /\ (∀ p ∈ E,valV kd (Sum.inr p.1) = some (.int (p.2.1.length:Int))) /\ ∀ s:Str,(∀ p ∈ E,p.1 ≠ s) -> valV kd (Sum.inr s) = none
theorem CdQ.sm {H G:Hp} {d:Addr} {E:List Piece} (h:CdQ H d E) (s:Same H G):CdQ G d E:=let ⟨k,a,b,c⟩:=h; ⟨k,s _ _ a,b,c⟩
theorem CdQ.put {G:Hp} {d:Addr} {kd:List (Key×V)} {E:List Piece} {p:Piece} (hp:WfP E p) (hl:kd.length <= E.length) (h1:∀ p ∈ E,valV kd (Sum.inr p.1) = some (.int (p.2.1.length:Int))) (h2:∀ s:Str,(∀ p ∈ E,p.1 ≠ s) -> valV kd (Sum.inr s) = none) (g:G d = some (.dK (putK kd (Sum.inr p.1) (.int (p.2.1.length:Int))))):CdQ G d (p :: E):=by
  refine ⟨_,g,by have:=put_len (kvs:=kd) (k:=Sum.inr p.1) (v:=.int (p.2.1.length:Int)); rw [List.length_cons]; omega,fun q hq => ?_,fun s hs => ?_⟩
  . rw [valV_put]
    rcases List.mem_cons.mp hq with rfl | hq
    . exact if_pos rfl
    . rw [if_neg fun z => hp.2.2.2.2.2 q hq (Sum.inr.inj z)]
      exact h1 q hq
  . rw [valV_put,if_neg fun z => hs p (by simp) (Sum.inr.inj z).symm]
    exact h2 s fun q hq => hs q (List.mem_cons_of_mem _ hq)
noncomputable def rLenS (w:World):List V -> Hp -> VK -> Prop:=fun vs H Q => ∃ (p:Addr) (xs:List Str),vs = [.ref p] /\ H p = some (SetS w p xs) /\ Q (.int xs.length) H
theorem c_lenS {X:Cx}:CallR X (.builtin "len") (rLenS X.w):=by
  intro pins s σ H vs us Q I r h
  obtain ⟨p,xs,rfl,hp,q⟩:=h
  obtain ⟨u,rfl,ru⟩:=r.one
  cases ru
  obtain ⟨es,ep,t,g,hel,hxs,hnd,hsz,hf,ht⟩:=(show TxSet X.w s.heap p xs from (I.hok p _ hp).1)
  have hl:xs.length = es.size:=by rw [← hxs]; simp
  refine call_len_set g ⟨rfl,rfl,rfl⟩ rfl hf (by unfold scanBound at hsz; omega) ⟨.int xs.length,H,I.kept (h':=s.heap) (t':=s.toks + 1 + 1) (fun _ _ e => e),⟨_,by rw [hl]⟩,q⟩
noncomputable def LnQ (H:Hp) (v:V) (ws:List Str):Prop:=∃ a,v = .ref a /\ H a = some (.lst (ws.map V.str))
noncomputable def LsQ (H:Hp) (l:Addr) (ls:List (List Str)):Prop:=∃ vs,H l = some (.lst vs) /\ Paired (LnQ H) vs ls
theorem LnQ.sm {H G:Hp} {v:V} {ws:List Str} (h:LnQ H v ws) (s:Same H G):LnQ G v ws:=let ⟨a,e,f⟩:=h; ⟨a,e,s _ _ f⟩
theorem LsQ.sm {H G:Hp} {l:Addr} {ls:List (List Str)} (h:LsQ H l ls) (s:Same H G):LsQ G l ls:=let ⟨vs,a,b⟩:=h; ⟨vs,s _ _ a,Pd.imp b fun _ _ f => f.sm s⟩
theorem nd_same {ys xs:List Str} (n1:ys.Nodup) (n2:xs.Nodup) (h:∀ z,z ∈ ys ↔ z ∈ xs):ys.length = xs.length:=Nat.le_antisymm (nd_len n1 fun x hx => (h x).mp hx) (nd_len n2 fun x hx => (h x).mpr hx)
theorem r_setU {w:World} {H:Hp} {Q:VK} {p:Addr} {xs:List Str} (hp:H p = some (.lst (xs.map V.str))) (hl:xs.length <= 4000) (k:∀ (l:Addr) (ys:List Str) (G:Hp),H l = none -> Same H G -> G l = some (SetS w l ys) -> ys.Nodup -> (∀ z,z ∈ ys ↔ z ∈ xs) -> Q (.ref l) G):rSetS w [.ref p] H Q :=
  ⟨p,xs,rfl,hp,hl,fun l ys h1 h2 h3 => k l ys _ h1 (Same.new h1) upd_same h2 h3⟩
theorem Pd.keep {α β:Type} {R S:α -> β -> Prop}:∀ {xs:List α} {ys:List β},Paired R xs ys -> (∀ x y,x ∈ xs -> R x y -> S x y) -> Paired S xs ys
  | _,_,.nil,_ => .nil
  | _,_,.cons h t,k => .cons (k _ _ (by simp) h) (Pd.keep t fun x y hx => k x y (List.mem_cons_of_mem _ hx))
theorem deq_wds:∀ xs ys:List Str,deqL (xs.map Dt.str) (ys.map Dt.str) = decide (xs = ys)
  | [],[] => rfl
  | [],_ :: _ => rfl
  | _ :: _,[] => rfl
  | x :: xs,y :: ys => by
    show ((x == y) && deqL (xs.map Dt.str) (ys.map Dt.str)) = _
    rw [deq_wds xs ys,Bool.eq_iff_iff,Bool.and_eq_true,decide_eq_true_iff,decide_eq_true_iff,beq_iff_eq,List.cons.injEq]
theorem e_strs {H:Hp} {Q:VK} {l1 l2:Addr} {xs ys:List Str} (h1:H l1 = some (.lst (xs.map V.str))) (h2:H l2 = some (.lst (ys.map V.str))) (k:Q (.bl (decide (xs = ys))) H):rEqA (.ref l1) (.ref l2) H Q:=by
  refine e_lst (ds:=xs.map Dt.str) (es:=ys.map Dt.str) ⟨l1,_,rfl,h1,den_ps xs⟩ ⟨l2,_,rfl,h2,den_ps ys⟩ (Nat.le_trans (dep_ps xs) (by decide)) ?_
  rw [deq_wds]
  exact k
theorem kw_wd:WdS "run" /\ WdS "put" /\ WdS "piece" /\ WdS "end" /\ WdS "row" /\ WdS "star" /\ WdS "ring":=by
  unfold WdS
  decide +kernel
theorem join_len {ws:List Str} (h:∀ w ∈ ws,w.length <= 100) (hn:ws.length <= 50):(Str.join sp1 ws).length <= 10000:=by
  have h1:=StrLaws.join_length_le sp1 ws
  have e:sp1.length = 1:=by decide +kernel
  have h2:∀ {l:List Str},(∀ w ∈ l,w.length <= 100) -> (l.map (·.length)).sum <= l.length * 100:=by
    intro l
    induction l with
    | nil => intro _; simp
    | cons a l ih =>
      intro h
      have:=ih fun w hw => h w (List.mem_cons_of_mem _ hw)
      have:=h a (by simp)
      rw [List.map_cons,List.sum_cons,List.length_cons,Nat.succ_mul]
      omega
  have h3:=h2 h
  rw [e] at h1
  omega
noncomputable def LnOk (ws:List Str):Prop:=ws ≠ [] /\ (∀ w ∈ ws,WdS w) /\ (Str.join sp1 ws).length <= 10000
theorem LnOk.of {ws:List Str} (h1:ws ≠ []) (h2:∀ w ∈ ws,WdS w) (h3:ws.length <= 50):LnOk ws:=⟨h1,h2,join_len (fun w hw => (h2 w hw).2.2) h3⟩
theorem WfE.nm {E:List Piece} (h:WfE E) {p:Piece} (hp:p ∈ E):partB p.1 = true:=(h.at hp).2.2.2.2.2 p.1 (by simp)
theorem row_ln {E:List Piece} (hE:WfE E) {r:TRow} (hw:WfT E r):LnOk (wdsT r):=by
  obtain ⟨k1,k2,k3,k4,k5,k6,k7⟩:=kw_wd
  cases r with
  | plain r =>
    cases r with
    | run a b t =>
      obtain ⟨h1,h2,h3⟩:=hw
      refine LnOk.of (List.cons_ne_nil _ _) (fun w hw => ?_) (by show 4 <= 50; decide)
      have hw:w = "run" ∨ w = a ∨ w = b ∨ w = tmS t:=by simpa [wdsT,wdsP] using hw
      rcases hw with rfl | rfl | rfl | rfl
      . exact k1
      . exact post_wd h1
      . exact post_wd h2
      . exact tm_wd h3
    | path k t ps =>
      obtain ⟨h1,h2,h3,h4,_⟩:=hw
      refine LnOk.of (List.cons_ne_nil _ _) (fun w hw => ?_) (by show ps.length + 1 + 1 <= 50; omega)
      have hw:w = k.nm ∨ w = tmS t ∨ w ∈ ps:=by simpa [wdsT,wdsP] using hw
      rcases hw with rfl | rfl | hw
      . cases k
        . exact k5
        . exact k6
        . exact k7
      . exact tm_wd h2
      . exact post_wd (h1 w hw)
  | put nm cl as =>
    obtain ⟨h1,h2,h3,x,hx,rfl,_⟩:=hw
    refine LnOk.of (List.cons_ne_nil _ _) (fun w hw => ?_) (by show as.length + 1 + 1 + 1 <= 50; omega)
    have hw:w = "put" ∨ w = x.1 ∨ w = cl ∨ w ∈ as:=by simpa [wdsT] using hw
    rcases hw with rfl | rfl | rfl | hw
    . exact k2
    . exact post_wd (okNm.part (hE.nm hx))
    . exact post_wd (okNm.part h1)
    . exact post_wd (h2 w hw)
theorem row_no_end (r:TRow):wdsT r ≠ [("end":Str)]:=by
  cases r with
  | plain r => cases r <;> exact fun h => by have:=congrArg List.length h; simp [wdsT,wdsP] at this
  | put nm cl as => exact fun h => by have:=congrArg List.length h; simp [wdsT] at this
theorem row_no_piece (r:TRow):∃ k ws,wdsT r = k :: ws /\ k ≠ "piece":=by
  cases r with
  | plain r =>
    cases r with
    | run a b t => exact ⟨_,_,rfl,by decide +kernel⟩
    | path k t ps => exact ⟨_,_,rfl,by cases k <;> decide +kernel⟩
  | put nm cl as => exact ⟨_,_,rfl,by decide +kernel⟩
theorem lines_ok:∀ {gs:List GRow} {E:List Piece},WfE E -> WfG E gs -> ∀ ws ∈ gs.flatMap linesG,LnOk ws
  | [],_,_,_,_,h => nomatch h
  | .one r :: gs,E,hE,hG,ws,h => by
    rw [List.flatMap_cons] at h
    rcases List.mem_append.mp h with h | h
    . rw [List.mem_singleton.mp (show ws ∈ [wdsT r] from h)]
      exact row_ln hE hG.1
    . exact lines_ok hE hG.2 ws h
  | .piece p :: gs,E,hE,hG,ws,h => by
    rw [List.flatMap_cons] at h
    obtain ⟨k1,k2,k3,k4,_⟩:=kw_wd
    obtain ⟨⟨g1,g2,g3,g4,⟨g5,g6,g7⟩,g8⟩,gg⟩:=id hG
    rcases List.mem_append.mp h with h | h
    . rcases List.mem_cons.mp (show ws ∈ (("piece":Str) :: p.1 :: p.2.1) :: (p.2.2.map wdsT ++ [[("end":Str)]]) from h) with rfl | h
      . refine LnOk.of (List.cons_ne_nil _ _) (fun w hw => ?_) (by show p.2.1.length + 1 + 1 <= 50; omega)
        rcases List.mem_cons.mp hw with rfl | hw
        . exact k3
        . exact post_wd (okNm.part (g7 w hw))
      . rcases List.mem_append.mp h with h | h
        . obtain ⟨r,hr,rfl⟩:=List.mem_map.mp h
          exact row_ln hE (g1 r hr)
        . rw [List.mem_singleton.mp h]
          exact LnOk.of (List.cons_ne_nil _ _) (fun w hw => by rw [List.mem_singleton.mp hw]; exact k4) (by show 1 <= 50; decide)
    . exact lines_ok (E:=p :: E) ⟨hG.1,hE⟩ gg ws h
theorem lines_len:∀ gs:List GRow,(gs.flatMap linesG).length = lnN gs
  | [] => rfl
  | .one r :: gs => by rw [List.flatMap_cons,List.length_append,lines_len gs]; show 1 + _ = _ + 1; omega
  | .piece p :: gs => by
    rw [List.flatMap_cons,List.length_append,lines_len gs]
    show ((p.2.2.map wdsT ++ [[("end":Str)]]).length + 1) + _ = _
    rw [List.length_append,List.length_map]
    show _ + 1 + 1 + _ = lnN gs + p.2.2.length + 2
    omega
theorem line_at {gs:List GRow} {i j:Nat} {g:GRow} (hg:gs[i]? = some g) (hj:j < (linesG g).length):(gs.flatMap linesG)[((gs.take i).flatMap linesG).length + j]? = (linesG g)[j]?:=by
  have hi:i < gs.length:=(List.getElem?_eq_some_iff.mp hg).1
  have e:gs = gs.take i ++ g :: gs.drop (i + 1):=by
    rw [← drop_at hg,List.take_append_drop]
  conv => lhs; rw [e,List.flatMap_append,List.flatMap_cons]
  rw [List.take_append_of_le_length (by rw [List.length_take]; omega),List.take_take,Nat.min_self]
  rw [List.getElem?_append_right (by omega),Nat.add_sub_cancel_left,List.getElem?_append_left hj]
theorem gs_at {gs:List GRow} {i:Nat} {g:GRow} (hg:gs[i]? = some g):(gs.flatMap linesG).drop ((gs.take i).flatMap linesG).length = linesG g ++ (gs.drop (i + 1)).flatMap linesG:=by
  have e:gs = gs.take i ++ g :: gs.drop (i + 1):=by
    rw [← drop_at hg,List.take_append_drop]
  have e2:gs.flatMap linesG = (gs.take i).flatMap linesG ++ (linesG g ++ (gs.drop (i + 1)).flatMap linesG):=by
    conv => lhs; rw [e,List.flatMap_append,List.flatMap_cons]
  rw [e2,List.drop_left]
theorem piece_len (p:Piece):(linesG (.piece p)).length = p.2.2.length + 2:=by
  show (p.2.2.map wdsT ++ [[("end":Str)]]).length + 1 = _
  rw [List.length_append,List.length_map]
  rfl
theorem piece_lines {gs:List GRow} {i:Nat} {p:Piece} (hg:gs[i]? = some (.piece p)):((gs.flatMap linesG).drop ((gs.take i).flatMap linesG).length).take (p.2.2.length + 1) = (("piece":Str) :: p.1 :: p.2.1) :: p.2.2.map wdsT:=by
  rw [gs_at hg,List.take_append_of_le_length (by rw [piece_len]; omega)]
  show _ :: (p.2.2.map wdsT ++ [[("end":Str)]]).take p.2.2.length = _
  rw [List.take_append_of_le_length (by rw [List.length_map]; exact Nat.le_refl _),List.take_of_length_le (by rw [List.length_map]; exact Nat.le_refl _)]
theorem piece_end (p:Piece):(linesG (.piece p))[p.2.2.length + 1]? = some [("end":Str)]:=by
  show (p.2.2.map wdsT ++ [[("end":Str)]])[p.2.2.length]? = _
  rw [List.getElem?_append_right (by rw [List.length_map]; exact Nat.le_refl _),List.length_map,Nat.sub_self]
  rfl
theorem piece_no_end {p:Piece} {k:Nat} {ws:List Str} (hk:k <= p.2.2.length) (h:(linesG (.piece p))[k]? = some ws):ws ≠ [("end":Str)]:=by
  cases k with
  | zero =>
    have e:("piece" :: p.1 :: p.2.1:List Str) = ws:=Option.some.inj h
    rw [← e]
    intro z
    have:=(List.cons.inj z).2
    cases this
  | succ k =>
    have e:(p.2.2.map wdsT ++ [[("end":Str)]])[k]? = some ws:=h
    rw [List.getElem?_append_left (by rw [List.length_map]; omega),List.getElem?_map] at e
    cases hr:p.2.2[k]? with
    | none => rw [hr] at e; cases e
    | some r =>
      rw [hr] at e
      rw [← (Option.some.inj e:wdsT r = ws)]
      exact row_no_end r
theorem cut_mid {xs:List V} {a b:Nat} (h1:a <= b) (h2:b <= xs.length):cutV xs (some (a:Int)) (some (b:Int)) = (xs.drop a).take (b - a):=by
  unfold cutV
  have e1:HT.sIx xs.length xs.length (some (b:Int)) = b:=by
    unfold HT.sIx
    dsimp only
    split <;> omega
  have e2:HT.sIx xs.length 0 (some (a:Int)) = a:=by
    unfold HT.sIx
    dsimp only
    split <;> omega
  rw [e1,e2]
end L2
namespace L2
open PySem PySem.Spec PyProof.Rows
noncomputable def KDic (P:Program) (w:World) (K:PySem.W.Frag) (a:Addr) (kvs:List (Key×V)):Prop:=(a == sysModules) = false /\ ∀ h:Heap,K.In h -> ∃ vs,KV kvs vs /\ h.DictOf (mixKind P w) a vs
section
variable {X:Cx} {x:Str} {a:Addr} {kvs:List (Key×V)} {i:Expr} {ty:TE} {p pos:Pos}
noncomputable def tKGet (kvs:List (Key×V)) (ty:TE):TE:=fun σ H Q => ty σ H fun y H2 => ∃ k v,y = kV k /\ valV kvs k = some v /\ Q v H2
theorem pe_kget (hg:Gl X x) (hm:X.mg x = some (.ref a)) (hd:KDic X.prog X.w X.K a kvs) (hi:PE X i ty) (hs:NoSl i) (hdb:(x == ("__debug__":Str)) = false:=by decide):PE X (.Subscript (.Name x p) i pos) (tKGet kvs ty):=by
  intro pins s σ H Q I h
  refine subD_of PySem.F.slot_dict_getitem.lookup hs ?_
  refine thn (pe_glob (v:=.ref a) hg hm rfl hdb pins s σ H (fun x H1 => x = .ref a /\ H1 = H) I ⟨rfl,rfl⟩) fun u s1 ⟨y,H1,I1,rx,e1,e2⟩ => ?_
  subst e1 e2
  obtain rfl:u = Value.ref a:=rx
  refine thn (hi pins s1 σ H1 _ I1 h) fun iv s2 ⟨y,H2,I2,ry,k,v,ey,ev,q⟩ => ?_
  subst ey
  obtain ⟨vs,rel,dd⟩:=hd.2 s2.heap I2.kIn
  obtain ⟨w',hw,rw'⟩:=RelO.some_of (v:=v) (o:=valueAt vs k) (by rw [← ev]; exact rel.val k)
  exact ⟨dd.typeIs,wpAny_getItem_of (kV_is ry) dd.mapOf hw ⟨v,H2,I2.tok _,rw',q⟩⟩
noncomputable def tKIn (kvs:List (Key×V)) (ty:TE):TE:=fun σ H Q => ty σ H fun y H2 => ∃ k,y = kV k /\ Q (.bl (valV kvs k).isSome) H2
theorem pc_kin (hg:Gl X x) (hm:X.mg x = some (.ref a)) (hd:KDic X.prog X.w X.K a kvs) (hi:PE X i ty) (hdb:(x == ("__debug__":Str)) = false:=by decide):PC X .In i (.Name x p) (tKIn kvs ty):=by
  intro pins s σ H Q I h
  refine thn (hi pins s σ H _ I h) fun iv s1 ⟨y,H1,I1,ry,k,ey,q⟩ => ?_
  subst ey
  refine thn (pe_glob (v:=.ref a) hg hm rfl hdb pins s1 σ H1 (fun x H2 => x = .ref a /\ H2 = H1) I1 ⟨rfl,rfl⟩) fun u s2 ⟨y,H2,I2,rx,e1,e2⟩ => ?_
  subst e1 e2
  obtain rfl:u = Value.ref a:=rx
  obtain ⟨vs,rel,dd⟩:=hd.2 s2.heap I2.kIn
  refine wpAny_in_of (kV_is ry) hd.1 dd.mapOf ?_
  rw [← (rel.val k).isSome_eq]
  exact ⟨.bl _,H2,I2.tok _,rfl,q⟩
end
theorem KDic.of3 {P:Program} {w:World} {K:PySem.W.Frag} {a:Addr} {s1 s2 s3:Str} {n1 n2 n3:Int} {h1 h2 h3:Int} {t1 t2 t3 u1 u2 u3:Tok} {ep:Nat} (l:K.lookup a = some ⟨.type "dict",none,.dict #[⟨h1,.str s1 t1,.int n1 u1⟩,⟨h2,.str s2 t2,.int n2 u2⟩,⟨h3,.str s3 t3,.int n3 u3⟩] ep,#[]⟩)
    (e1:h1 = keyH w (Sum.inr s1)) (e2:h2 = keyH w (Sum.inr s2)) (e3:h3 = keyH w (Sum.inr s3)) (ns:(a == sysModules) = false) (nd:([Sum.inr s1,Sum.inr s2,Sum.inr s3]:List Key).Nodup):KDic P w K a [(Sum.inr s1,.int n1),(Sum.inr s2,.int n2),(Sum.inr s3,.int n3)]:=by
  subst e1 e2 e3
  refine ⟨ns,fun h hK => ⟨[(Sum.inr s1,.int n1 u1),(Sum.inr s2,.int n2 u2),(Sum.inr s3,.int n3 u3)],.cons ⟨rfl,⟨u1,rfl⟩⟩ (.cons ⟨rfl,⟨u2,rfl⟩⟩ (.cons ⟨rfl,⟨u3,rfl⟩⟩ .nil)),_,_,_,hK _ _ l,⟨rfl,rfl,rfl⟩,rfl,?_,?_,nd⟩⟩
  . intro e he
    have he:e ∈ [(⟨keyH w (Sum.inr s1),.str s1 t1,.int n1 u1⟩:DictEntry),⟨keyH w (Sum.inr s2),.str s2 t2,.int n2 u2⟩,⟨keyH w (Sum.inr s3),.str s3 t3,.int n3 u3⟩]:=by simpa using he
    rcases List.mem_cons.mp he with rfl | he
    . exact ⟨Sum.inr s1,keyIs_str s1 t1,rfl⟩
    rcases List.mem_cons.mp he with rfl | he
    . exact ⟨Sum.inr s2,keyIs_str s2 t2,rfl⟩
    . rw [List.mem_singleton.mp he]
      exact ⟨Sum.inr s3,keyIs_str s3 t3,rfl⟩
  . exact .cons (kv:=(Sum.inr s1,.int n1 u1)) (keyIs_str s1 t1) rfl (.cons (kv:=(Sum.inr s2,.int n2 u2)) (keyIs_str s2 t2) rfl (.cons (kv:=(Sum.inr s3,.int n3 u3)) (keyIs_str s3 t3) rfl .nil))
noncomputable def kgK (kvs:List (Key×V)) (Q:VK):VK:=fun y H2 => ∃ k v,y = kV k /\ valV kvs k = some v /\ Q v H2
theorem r_kget {kvs:List (Key×V)} {ty:TE} {σ:St} {H:Hp} {Q:VK} (k:ty σ H (kgK kvs Q)):tKGet kvs ty σ H Q:=k
theorem r_kgS {kvs:List (Key×V)} {H:Hp} {Q:VK} {s:Str} {v:V} (e:valV kvs (Sum.inr s) = some v) (k:Q v H):kgK kvs Q (.str s) H:=⟨Sum.inr s,v,rfl,e,k⟩
noncomputable def kiK (kvs:List (Key×V)) (Q:VK):VK:=fun y H2 => ∃ k,y = kV k /\ Q (.bl (valV kvs k).isSome) H2
theorem r_kin {kvs:List (Key×V)} {ty:TE} {σ:St} {H:Hp} {Q:VK} (k:ty σ H (kiK kvs Q)):tKIn kvs ty σ H Q:=k
theorem r_kiS {kvs:List (Key×V)} {H:Hp} {Q:VK} {s:Str} {b:Bool} (e:(valV kvs (Sum.inr s)).isSome = b) (k:Q (.bl b) H):kiK kvs Q (.str s) H:=⟨Sum.inr s,rfl,by rw [e]; exact k⟩
end L2
namespace Lw
open PySem L2
set_option compiler.extract_closed false
set_option hygiene false
local macro_rules | `(tactic| walk_at "st") => `(tactic| first
  | with_reducible assumption
  | ((with_reducible refine St3.new ?_ ?hn); (case hn => with_reducible assumption); walk_at "st"))
local macro_rules | `(tactic| walk_at "kp") => `(tactic| first
  | with_reducible assumption
  | with_reducible exact Kp.refl _ _
  | ((with_reducible refine Kp.trans ?_ (Kp.new ?hn)); (case hn => with_reducible assumption); walk_at "kp"))
local macro_rules | `(tactic| walk_at "sm") => `(tactic| first
  | with_reducible assumption
  | with_reducible exact Same.refl _
  | ((with_reducible refine Same.trans ?_ (Same.new ?hn)); (case hn => with_reducible assumption); walk_at "sm"))
local macro_rules | `(tactic| walk_at "hp") => `(tactic| first
  | with_reducible assumption
  | with_reducible exact upd_same
  | ((with_reducible refine upd_old ?hn ?_); (case hn => with_reducible assumption); walk_at "hp")
  | ((with_reducible refine upd_not ?hn ?_); (case hn => first | with_reducible assumption | (refine Ne.symm ?_; with_reducible assumption)); walk_at "hp")
  | ((with_reducible refine Same.app ?hn ?_); (case hn => with_reducible assumption); walk_at "hp")
  | ((with_reducible refine Kp.app ?hk ?hn ?_); (case hk => with_reducible assumption); (case hn => first | with_reducible assumption | (refine Ne.symm ?_; with_reducible assumption)); walk_at "hp"))
local macro_rules | `(tactic| walk_at "tk") => `(tactic| first
  | with_reducible exact TK.refl _
  | with_reducible assumption
  | ((with_reducible refine TK.trans ?_ (TK.new ?hn)); (case hn => with_reducible assumption); walk_at "tk")
  | ((with_reducible refine TK.trans ?_ (TK.lst ?hn)); (case hn => walk_at "hp"); walk_at "tk")
  | ((with_reducible refine TK.trans ?_ (TK.dic ?hn)); (case hn => walk_at "hp"); walk_at "tk")
  | ((with_reducible refine TK.trans ?_ (TK.frz ?hn)); (case hn => walk_at "hp"); walk_at "tk")
  | ((with_reducible refine TK.trans ?_ TK.melt); walk_at "tk")
  | ((with_reducible refine TK.trans ?_ (Same.tk ?hn)); (case hn => with_reducible assumption); walk_at "tk")
  | ((with_reducible refine TK.trans ?_ (St3.tk ?hs ?hn)); (case hn => with_reducible assumption); (case hs => with_reducible assumption); walk_at "tk"))
local macro_rules | `(tactic| walk_at "fq") => `(tactic| first
  | with_reducible assumption
  | ((with_reducible refine FrQ.tk ?fa ?ft); (case fa => with_reducible assumption); (case ft => walk_at "tk")))
local macro_rules | `(tactic| walk_at "go1") => `(tactic| first
  | with_reducible refine r_seq ?_
  | ((with_reducible refine r_nxD ?_); (with_reducible refine r_nx ?_))
  | ((with_reducible refine r_rtD ?_); (with_reducible refine r_rt ?_))
  | ((with_reducible refine r_bkD ?_); (with_reducible refine r_bk ?_))
  | ((with_reducible refine r_ctD ?_); (with_reducible refine r_ct ?_))
  | with_reducible refine r_asg ?_
  | with_reducible refine r_gname ?_
  | ((with_reducible refine' r_var ?rv ?_); case rv => exact rfl)
  | with_reducible refine r_c ?_
  | with_reducible refine r_op ?_
  | with_reducible refine r_un ?_
  | with_reducible refine r_I0 ?_
  | with_reducible refine r_U ?_
  | with_reducible refine a_int ?_
  | with_reducible refine r_sl ?_
  | with_reducible refine r_part ?_
  | with_reducible refine r_partK ?_
  | with_reducible refine r_nopart ?_
  | ((with_reducible refine r_mod ?mc ?_); case mc => first | decide | omega)
  | ((with_reducible refine r_modN ?mc ?_); case mc => first | decide | omega)
  | ((with_reducible refine r_mul ?mc ?_); case mc => first | exact CMulB.r (by decide) (by decide) | exact CMulB.l (by decide) (by decide) | exact CMulB.l (by omega) (by omega) | exact CMulB.r (by omega) (by omega))
  | ((with_reducible refine r_fdiv ?mc ?_); case mc => first | exact CDivB.of (by decide) (by decide) | exact CDivB.of (by omega) (by omega))
  | with_reducible refine r_pow18 ?_
  | with_reducible refine r_pow9 ?_
  | with_reducible refine r_test ?_
  | with_reducible refine r_tB ?_
  | with_reducible refine r_bK ?_
  | with_reducible refine r_ifS ?_
  | with_reducible refine r_if ?_
  | with_reducible refine r_and ?_
  | with_reducible refine r_or ?_
  | with_reducible refine r_not ?_
  | with_reducible refine r_andV ?_
  | with_reducible refine r_orV ?_
  | with_reducible refine r_notV ?_
  | with_reducible refine r_andK ?_
  | with_reducible refine r_orK ?_
  | with_reducible refine r_notK ?_
  | with_reducible refine r_ret ?_
  | with_reducible refine r_retN ?_
  | with_reducible refine r_next ?_
  | with_reducible refine r_drop ?_
  | with_reducible refine r_nil ?_
  | with_reducible refine r_cons ?_
  | with_reducible refine r_tup ?_
  | with_reducible refine r_lst ?_
  | with_reducible refine r_call ?_
  | with_reducible refine r_callD ?_
  | with_reducible refine r_callK ?_
  | with_reducible refine r_lrng ?_
  | with_reducible refine r_iTup ?_
  | with_reducible refine r_rngD ?_
  | with_reducible refine r_CB ?_
  | with_reducible refine r_dget ?_
  | with_reducible refine r_din ?_
  | with_reducible refine r_dnin ?_
  | with_reducible refine r_dput ?_
  | with_reducible refine r_dget1 ?_
  | with_reducible refine r_dget2 ?_
  | with_reducible refine r_dpop1 ?_
  | with_reducible refine r_bm ?_
  | with_reducible refine r_bm0 ?_
  | with_reducible refine r_bmS ?_
  | with_reducible refine r_gcons ?_
  | with_reducible refine r_gnil ?_
  | with_reducible refine r_iEnum ?_
  | with_reducible refine r_tru ?_
  | with_reducible refine r_orT ?_
  | with_reducible refine r_cont ?_
  | with_reducible refine r_break ?_
  | with_reducible refine r_isNr ?_
  | with_reducible refine r_isNn ?_
  | with_reducible refine r_isNs ?_
  | with_reducible refine r_isNi ?_
  | with_reducible refine r_isNk ?_
  | with_reducible refine r_noNr ?_
  | with_reducible refine r_noNn ?_
  | with_reducible refine r_noNs ?_
  | ((with_reducible refine' r_bmL ?ih ?_); (case ih => walk_at "hp"))
  | ((with_reducible refine' r_bmD ?ih ?_); (case ih => walk_at "hp"))
  | ((with_reducible refine' r_bm0D ?ih ?_); (case ih => walk_at "hp"))
  | ((with_reducible refine' r_gtup2 ?ih ?_); (case ih => walk_at "hp"))
  | ((with_reducible refine' r_gtup3 ?ih ?_); (case ih => walk_at "hp"))
  | ((with_reducible refine' r_gtup4 ?ih ?_); (case ih => walk_at "hp"))
  | with_reducible refine r_par ?_
  | with_reducible refine r_parK ?_
  | with_reducible refine e_int ?_
  | with_reducible refine n_int ?_
  | with_reducible refine e_bl ?_
  | with_reducible refine n_bl ?_
  | with_reducible refine e_str ?_
  | with_reducible refine n_str ?_
  | with_reducible refine r_isB ?_
  | with_reducible refine r_isNB ?_
  | with_reducible refine r_gsub ?_
  | with_reducible refine r_abs ?_
  | with_reducible refine r_max ?_
  | with_reducible refine r_min ?_
  | with_reducible refine r_intB ?_
  | with_reducible refine r_for ?_
  | with_reducible refine r_comp ?_
  | with_reducible refine r_rng1 ?_
  | with_reducible refine r_rng2 ?_
  | with_reducible refine r_iList ?_
  | ((with_reducible refine' r_lent ?ih ?_); (case ih => walk_at "hp"))
  | ((with_reducible refine' r_lenl ?ih ?_); (case ih => walk_at "hp"))
  | ((with_reducible refine' r_ixt ?ih ?ie ?_); (case ih => walk_at "hp"); (case ie => exact rfl))
  | ((with_reducible refine' r_ixl ?ih ?ie ?_); (case ih => walk_at "hp"); (case ie => exact rfl))
  | with_reducible refine r_dmN ?_
  | with_reducible refine r_dmR ?_
  | with_reducible refine i_sN ?_
  | with_reducible refine i_sS ?_
  | with_reducible refine i_T ?_
  | with_reducible refine i_F ?_
  | with_reducible refine i_flip ?_
  | ((with_reducible refine i_dT ?dc ?_); case dc => omega)
  | ((with_reducible refine i_dF ?dc ?_); case dc => omega))
local macro_rules | `(tactic| walk_at "go") => `(tactic| repeat (walk_at "go1"))
local macro_rules | `(tactic| walk_at "gos") => `(tactic| repeat ((fail_if_success (with_reducible refine r_seq ?_)); walk_at "go1"))
set_option hygiene true
theorem cxK_of {CX:CXT} {P:Program} {w:World} {K:PySem.W.Frag} {mg:Str -> Option Value} {base:Heap} {N:List Str} {qual:Str} {scope:Scope} {f:Addr} {cd:Value} {A:Around} {outer:List Env} {s:Shared} {H:Hp} {E:XK}:(cxOf CX P w K mg base N qual scope f cd A outer s H E).K = K:=rfl
theorem cxK_nox {X:Cx}:X.nox.K = X.K:=rfl
theorem el_n {P:List Value -> Prop} (h:P []):∀ us:List Value,us.length = 0 -> P us:=fun us e => (List.length_eq_zero_iff.mp e).symm ▸ h
theorem el_s {n:Nat} {P:List Value -> Prop} (h:∀ a us,us.length = n -> P (a :: us)):∀ us:List Value,us.length = n + 1 -> P us:=fun us => List.casesOn (motive:=fun us => us.length = n + 1 -> P us) us (fun e => absurd e (Nat.succ_ne_zero n).symm) fun a us e => h a us (Nat.succ.inj e)
theorem el_1 {P:List Value -> Prop} (h:∀ a0,P [a0]):∀ us:List Value,us.length = 1 -> P us:=el_s fun a0 => el_n (h a0)
theorem el_2 {P:List Value -> Prop} (h:∀ a0 a1,P [a0,a1]):∀ us:List Value,us.length = 2 -> P us:=el_s fun a0 => el_s fun a1 => el_n (h a0 a1)
theorem el_3 {P:List Value -> Prop} (h:∀ a0 a1 a2,P [a0,a1,a2]):∀ us:List Value,us.length = 3 -> P us:=el_s fun a0 => el_s fun a1 => el_s fun a2 => el_n (h a0 a1 a2)
noncomputable def top (i:Nat):Stmt:=PySem.Challenge.pw_tilefall_k71_rows_read.main.body.getD i (.Pass ⟨0,0,0,0⟩)
local macro_rules | `(tactic| walk_at "go1") => `(tactic| first
  | with_reducible refine r_chain ?_
  | with_reducible refine r_chnA ?_
  | with_reducible refine r_chnB ?_
  | with_reducible refine r_chnC ?_
  | with_reducible refine r_chnD ?_
  | with_reducible refine r_inTx ?_
  | with_reducible refine r_iSigns ?_)
local macro_rules | `(tactic| walk_at "go1") => `(tactic| first
  | with_reducible refine r_jn ?_
  | with_reducible refine r_fmt ?_
  | with_reducible refine r_jn0 ?_
  | ((with_reducible refine r_jnK ?jy ?_); case jy => first | omega | decide +kernel))
noncomputable def runT (r:TRun):Prop:=PostS r.1 /\ PostS r.2.1 /\ r.1 ≠ r.2.1 /\ 0 < r.2.2.num /\ r.2.2.num <= 100 /\ r.2.2.den <= 100
theorem run_is {K:PySem.W.Frag} {H:Hp} {v:V} {r:TRun} (h:RunQ H v (Sum.inr r.1,Sum.inr r.2.1,r.2.2)) (t:runT r):IsRunQ K H v true:=by
  obtain ⟨p,u,rfl,hp,pt,rfl,hpt⟩:=h
  obtain ⟨h1,h2,h3,h4,h5,h6⟩:=t
  have hd:=r.2.2.den_pos
  have m1:Sm 8000 r.2.2.num:=(Sm.of (n:=64) (by omega) (by omega)).mono (by decide)
  have m2:Sm 8000 (r.2.2.den:Int):=(Sm.of (n:=64) (by omega) (by omega)).mono (by decide)
  have:=IsRunQ.run (K:=K) hp h1.q h2.q h3 hpt (fr_frV _) m1 m2
  rw [decide_eq_true h4] at this
  exact this
theorem runs_are {K:PySem.W.Frag} {H:Hp}:∀ {n:List TRun} {vs:List V},Paired (RunQ H) vs (kn n) -> (∀ r ∈ n,runT r) -> Paired (IsRunQ K H) vs (List.replicate n.length true)
  | [],_,.nil,_ => .nil
  | r :: n,_,.cons h t,hr => .cons (run_is h (hr r (by simp))) (runs_are t fun x hx => hr x (List.mem_cons_of_mem _ hx))
noncomputable def NetBad (K:PySem.W.Frag) (H:Hp) (v:V):Prop:=(∃ l vs bs,v = .ref l /\ H l = some (.lst vs) /\ Paired (IsRunQ K H) vs bs /\ vs.length <= 900 /\ (vs.length = 0 ∨ 120 < vs.length ∨ false ∈ bs)) ∨ NL K H v
theorem den_strs6 {G:Hp}:∀ ys:List Str,DenL G (ys.map Dt.str) (ys.map V.str)
  | [] => rfl
  | y :: r => ⟨_,_,rfl,rfl,den_strs6 r⟩
theorem dep_strs6:∀ ys:List Str,depL (ys.map Dt.str) <= 50
  | [] => by simp [depL]
  | y :: r => by
    have:=dep_strs6 r
    rw [List.map_cons]
    simp only [depL,dep]
    omega
local macro_rules | `(tactic| walk_at "go1") => `(tactic| first
  | rw [if_pos (show (_ == _) = true by decide +kernel)]
  | rw [if_neg (show ¬ (_ == _) = true by decide +kernel)]
  | with_reducible refine r_iEnumT ?_)
local macro_rules | `(tactic| walk_at "go1") => `(tactic| first
  | with_reducible refine r_jx ?_
  | with_reducible refine r_jx0 ?_
  | with_reducible refine r_fms ?_
  | with_reducible refine r_bmu ?_
  | ((with_reducible refine' r_bmuK ?ih ?_); (case ih => walk_at "hp")))
local macro_rules | `(tactic| walk_at "go1") => `(tactic| first
  | with_reducible refine r_kget ?_
  | with_reducible refine r_kin ?_)
noncomputable abbrev s_is_whole:Stmt:=top 4
theorem sc_is_whole:FnScope ["thing"] ["thing"] (defScope s_is_whole):=⟨rfl,rfl,rfl,by decide +kernel,rfl,by decide +kernel,by decide +kernel⟩
noncomputable abbrev s_common_divisor:Stmt:=top 5
theorem sc_common_divisor:FnScope ["one","other","rest"] ["one","other"] (defScope s_common_divisor):=⟨rfl,rfl,rfl,by decide +kernel,rfl,by decide +kernel,by decide +kernel⟩
noncomputable abbrev s_is_fraction:Stmt:=top 6
theorem sc_is_fraction:FnScope ["thing"] ["thing"] (defScope s_is_fraction):=⟨rfl,rfl,rfl,by decide +kernel,rfl,by decide +kernel,by decide +kernel⟩
noncomputable abbrev s_is_written:Stmt:=top 10
theorem sc_is_written:FnScope ["word","most"] ["word","most"] (defScope s_is_written):=⟨rfl,rfl,rfl,by decide +kernel,rfl,by decide +kernel,by decide +kernel⟩
noncomputable abbrev s_read_time:Stmt:=top 11
theorem sc_read_time:FnScope ["word","parts","time"] ["word"] (defScope s_read_time):=⟨rfl,rfl,rfl,by decide +kernel,rfl,by decide +kernel,by decide +kernel⟩
noncomputable abbrev s_shown_whole:Stmt:=top 12
theorem sc_shown_whole:FnScope ["whole","beyond","rest","shown"] ["whole"] (defScope s_shown_whole):=⟨rfl,rfl,rfl,by decide +kernel,rfl,by decide +kernel,by decide +kernel⟩
noncomputable abbrev s_shown_fraction:Stmt:=top 13
theorem sc_shown_fraction:FnScope ["each","top","bottom"] ["each"] (defScope s_shown_fraction):=⟨rfl,rfl,rfl,by decide +kernel,rfl,by decide +kernel,by decide +kernel⟩
noncomputable abbrev s_is_part:Stmt:=top 18
theorem sc_is_part:FnScope ["text"] ["text"] (defScope s_is_part):=⟨rfl,rfl,rfl,by decide +kernel,rfl,by decide +kernel,by decide +kernel⟩
noncomputable abbrev s_is_post:Stmt:=top 19
theorem sc_is_post:FnScope ["thing","parts"] ["thing"] (defScope s_is_post):=⟨rfl,rfl,rfl,by decide +kernel,rfl,by decide +kernel,by decide +kernel⟩
noncomputable abbrev s_refuse_unless:Stmt:=top 24
theorem sc_refuse_unless:FnScope ["holds","words","row"] ["holds","words"] (defScope s_refuse_unless):=⟨rfl,rfl,rfl,by decide +kernel,rfl,by decide +kernel,by decide +kernel⟩
noncomputable abbrev s_posts_in:Stmt:=top 25
theorem sc_posts_in:FnScope ["words","told"] ["words","told"] (defScope s_posts_in):=⟨rfl,rfl,rfl,by decide +kernel,rfl,by decide +kernel,by decide +kernel⟩
noncomputable abbrev s_time_in:Stmt:=top 26
theorem sc_time_in:FnScope ["words","word","time"] ["words","word"] (defScope s_time_in):=⟨rfl,rfl,rfl,by decide +kernel,rfl,by decide +kernel,by decide +kernel⟩
noncomputable abbrev s_run_in:Stmt:=top 27
theorem sc_run_in:FnScope ["words","posts"] ["words"] (defScope s_run_in):=⟨rfl,rfl,rfl,by decide +kernel,rfl,by decide +kernel,by decide +kernel⟩
noncomputable abbrev s_posts_row_in:Stmt:=top 28
theorem sc_posts_row_in:FnScope ["words"] ["words"] (defScope s_posts_row_in):=⟨rfl,rfl,rfl,by decide +kernel,rfl,by decide +kernel,by decide +kernel⟩
noncomputable abbrev s_put_in:Stmt:=top 29
theorem sc_put_in:FnScope ["words","counts"] ["words","counts"] (defScope s_put_in):=⟨rfl,rfl,rfl,by decide +kernel,rfl,by decide +kernel,by decide +kernel⟩
noncomputable abbrev s_plain_row_in:Stmt:=top 30
theorem sc_plain_row_in:FnScope ["words","counts"] ["words","counts"] (defScope s_plain_row_in):=⟨rfl,rfl,rfl,by decide +kernel,rfl,by decide +kernel,by decide +kernel⟩
noncomputable abbrev s_piece_in:Stmt:=top 31
theorem sc_piece_in:FnScope ["lines","counts","words","params"] ["lines","counts"] (defScope s_piece_in):=⟨rfl,rfl,rfl,by decide +kernel,rfl,by decide +kernel,by decide +kernel⟩
noncomputable abbrev s_end_behind:Stmt:=top 32
theorem sc_end_behind:FnScope ["lines","place","later"] ["lines","place"] (defScope s_end_behind):=⟨rfl,rfl,rfl,by decide +kernel,rfl,by decide +kernel,by decide +kernel⟩
noncomputable abbrev s_lines_in:Stmt:=top 33
theorem sc_lines_in:FnScope ["text","lines"] ["text"] (defScope s_lines_in):=⟨rfl,rfl,rfl,by decide +kernel,rfl,by decide +kernel,by decide +kernel⟩
noncomputable abbrev s_read_rows:Stmt:=top 34
theorem sc_read_rows:FnScope ["text","lines","rows","counts","place","end","piece"] ["text"] (defScope s_read_rows):=⟨rfl,rfl,rfl,by decide +kernel,rfl,by decide +kernel,by decide +kernel⟩
noncomputable abbrev s_words_of:Stmt:=top 35
theorem sc_words_of:FnScope ["row"] ["row"] (defScope s_words_of):=⟨rfl,rfl,rfl,by decide +kernel,rfl,by decide +kernel,by decide +kernel⟩
noncomputable abbrev s_shown_rows:Stmt:=top 36
theorem sc_shown_rows:FnScope ["rows","lines","row"] ["rows"] (defScope s_shown_rows):=⟨rfl,rfl,rfl,by decide +kernel,rfl,by decide +kernel,by decide +kernel⟩
noncomputable abbrev s_cell_at:Stmt:=top 38
theorem sc_cell_at:FnScope ["_law_script","_law_k"] ["_law_script","_law_k"] (defScope s_cell_at):=⟨rfl,rfl,rfl,by decide +kernel,rfl,by decide +kernel,by decide +kernel⟩
noncomputable abbrev s_number:Stmt:=top 39
theorem sc_number:FnScope ["_law_script","_law_k","_law_cell","_law_one","_law_two","_law_three","_law_number_here"] ["_law_script","_law_k"] (defScope s_number):=⟨rfl,rfl,rfl,by decide +kernel,rfl,by decide +kernel,by decide +kernel⟩
noncomputable abbrev s_lowest:Stmt:=top 40
theorem sc_lowest:FnScope ["_law_top","_law_bottom","_law_one","_law_other"] ["_law_top","_law_bottom"] (defScope s_lowest):=⟨rfl,rfl,rfl,by decide +kernel,rfl,by decide +kernel,by decide +kernel⟩
noncomputable abbrev s_names:Stmt:=top 41
theorem sc_names:FnScope ["_law_script","_law_letters","_law_number_here","_law_before","_law_behind"] ["_law_script"] (defScope s_names):=⟨rfl,rfl,rfl,by decide +kernel,rfl,by decide +kernel,by decide +kernel⟩
noncomputable abbrev s_post:Stmt:=top 42
theorem sc_post:FnScope ["_law_number_here","_law_names_here","_law_kind","_law_first","_law_more"] ["_law_number_here","_law_names_here"] (defScope s_post):=⟨rfl,rfl,rfl,by decide +kernel,rfl,by decide +kernel,by decide +kernel⟩
noncomputable abbrev s_time:Stmt:=top 43
theorem sc_time:FnScope ["_law_number_here","_law_most","_law_bottom"] ["_law_number_here"] (defScope s_time):=⟨rfl,rfl,rfl,by decide +kernel,rfl,by decide +kernel,by decide +kernel⟩
noncomputable abbrev s_posts:Stmt:=top 44
theorem sc_posts:FnScope ["_law_number_here","_law_names_here","_law_many","_law_found","_law_k"] ["_law_number_here","_law_names_here","_law_many"] (defScope s_posts):=⟨rfl,rfl,rfl,by decide +kernel,rfl,by decide +kernel,by decide +kernel⟩
noncomputable abbrev s_plain:Stmt:=top 45
theorem sc_plain:FnScope ["_law_number_here","_law_names_here","_law_kind","_law_many","_law_posts_here","_law_more","_law_k","_law_time_here"] ["_law_number_here","_law_names_here"] (defScope s_plain):=⟨rfl,rfl,rfl,by decide +kernel,rfl,by decide +kernel,by decide +kernel⟩
noncomputable abbrev s_row:Stmt:=top 46
theorem sc_row:FnScope ["_law_number_here","_law_names_here","_law_known","_law_name","_law_many"] ["_law_number_here","_law_names_here","_law_known"] (defScope s_row):=⟨rfl,rfl,rfl,by decide +kernel,rfl,by decide +kernel,by decide +kernel⟩
noncomputable abbrev s_closed:Stmt:=top 47
theorem sc_closed:FnScope ["_law_state","_law_name","_law_params","_law_some"] ["_law_state"] (defScope s_closed):=⟨rfl,rfl,rfl,by decide +kernel,rfl,by decide +kernel,by decide +kernel⟩
noncomputable abbrev s_time_text:Stmt:=top 50
theorem sc_time_text:FnScope ["_law_time_here"] ["_law_time_here"] (defScope s_time_text):=⟨rfl,rfl,rfl,by decide +kernel,rfl,by decide +kernel,by decide +kernel⟩
noncomputable abbrev s_row_texts:Stmt:=top 51
theorem sc_row_texts:FnScope ["_law_row_here","_law_texts","_law_one"] ["_law_row_here"] (defScope s_row_texts):=⟨rfl,rfl,rfl,by decide +kernel,rfl,by decide +kernel,by decide +kernel⟩
noncomputable abbrev s_next:Stmt:=top 48
theorem sc_next:FnScope ["_law_number_here","_law_state","_law_names_here","_law_name","_law_inside","_law_many","_law_row_here"] ["_law_number_here","_law_state","_law_names_here"] (defScope s_next):=⟨rfl,rfl,rfl,by decide +kernel,rfl,by decide +kernel,by decide +kernel⟩
noncomputable abbrev s_built:Stmt:=top 49
theorem sc_built:FnScope ["_law_script","_law_first","_law_end","_law_names_here","_law_state","_law_k"] ["_law_script","_law_first","_law_end"] (defScope s_built):=⟨rfl,rfl,rfl,by decide +kernel,rfl,by decide +kernel,by decide +kernel⟩
noncomputable abbrev s_text:Stmt:=top 52
theorem sc_text:FnScope ["_law_rows","_law_texts","_law_row_here"] ["_law_rows"] (defScope s_text):=⟨rfl,rfl,rfl,by decide +kernel,rfl,by decide +kernel,by decide +kernel⟩
noncomputable abbrev s_law:Stmt:=top 53
theorem sc_law:FnScope ["_law_script","_law_due","_law_text_here","_law_found"] ["_law_script"] (defScope s_law):=⟨rfl,rfl,rfl,by decide +kernel,rfl,by decide +kernel,by decide +kernel⟩
inductive spWhole_I (K:PySem.W.Frag) (vs:List V) (H:Hp) (Q:VK) (EE:XK):Prop
  | mk (x:V) (t:Value) (b c:Bool) (h0':vs = [x]) (h1':TyOf K H x t) (h2':PySem.W.kitOne K t (.type "int") = some b) (h3':PySem.W.kitOne K t (.type "bool") = some c) (h4':Q (.bl (b && !c)) H):spWhole_I K vs H Q EE
noncomputable def spWhole (K:PySem.W.Frag):Sp:=fun vs H Q EE => spWhole_I K vs H Q EE
inductive spGcd_I (vs:List V) (H:Hp) (Q:VK) (EE:XK):Prop
  | mk (a b:Int) (h0':vs = [.int a,.int b]) (h1':Q (.int (Int.gcd a b:Int)) H):spGcd_I vs H Q EE
noncomputable def spGcd:Sp:=fun vs H Q EE => spGcd_I vs H Q EE
inductive spIsFrac_I (K:PySem.W.Frag) (vs:List V) (H:Hp) (Q:VK) (EE:XK):Prop
  | mk (x:V) (r:Bool) (h0':vs = [x]) (h1':Frq K H x r) (h2':Q (.bl r) H):spIsFrac_I K vs H Q EE
noncomputable def spIsFrac (K:PySem.W.Frag):Sp:=fun vs H Q EE => spIsFrac_I K vs H Q EE
inductive spWrit_I (vs:List V) (H:Hp) (Q:VK) (EE:XK):Prop
  | mk (z:Str) (h0':vs = [.str z,.int 12]) (h1':DigS z) (h2':1 <= z.length) (h3':z.length <= 12) (h4':(∃ c r,z.cps.toList = c :: r /\ c ≠ 48)) (h5':∀ H',Same H H' -> Q (.bl true) H'):spWrit_I vs H Q EE
noncomputable def spWrit:Sp:=fun vs H Q EE => spWrit_I vs H Q EE
inductive spReadT_I (vs:List V) (H:Hp) (Q:VK) (EE:XK):Prop
  | mk (t:Rat) (h0':vs = [.str (tmS t)]) (h1':TimR t) (h2':∀ v H',Same H H' -> FrQ H' v t -> Q v H'):spReadT_I vs H Q EE
noncomputable def spReadT:Sp:=fun vs H Q EE => spReadT_I vs H Q EE
theorem r_pow64 {H:Hp} {Q:VK} (k:Q (.int (10 ^ 64)) H):rI CPow (fun i j => .int (i ^ j.toNat)) (.int 10) (.int 64) H Q:=r_I ⟨by decide,by decide,by decide⟩ k
inductive spShownW_I (vs:List V) (H:Hp) (Q:VK) (EE:XK):Prop
  | mk (n:Int) (h0':vs = [.int n]) (h1':0 <= n) (h2':n < 10 ^ 12) (h3':Q (.str (numS n)) H):spShownW_I vs H Q EE
noncomputable def spShownW:Sp:=fun vs H Q EE => spShownW_I vs H Q EE
inductive spShownF_I (vs:List V) (H:Hp) (Q:VK) (EE:XK):Prop
  | mk (v:V) (q:Rat) (h0':vs = [v]) (h1':FrQ H v q) (h2':TimR q) (h3':Q (.str (tmS q)) H):spShownF_I vs H Q EE
noncomputable def spShownF:Sp:=fun vs H Q EE => spShownF_I vs H Q EE
inductive spPart_I (vs:List V) (H:Hp) (Q:VK) (EE:XK):Prop
  | mk (z:Str) (h0':vs = [.str z]) (h1':z.length <= 1000) (h2':∀ H',Same H H' -> Q (.bl (partB z)) H'):spPart_I vs H Q EE
noncomputable def spPart:Sp:=fun vs H Q EE => spPart_I vs H Q EE
inductive spPost_I (K:PySem.W.Frag) (vs:List V) (H:Hp) (Q:VK) (EE:XK):Prop
  | mk (x:V) (b:Bool) (h0':vs = [x]) (h1':PostQ K H x b) (h2':∀ H',Same H H' -> Q (.bl b) H'):spPost_I K vs H Q EE
noncomputable def spPost (K:PySem.W.Frag):Sp:=fun vs H Q EE => spPost_I K vs H Q EE
inductive spRefU_I (vs:List V) (H:Hp) (Q:VK) (EE:XK):Prop
  | mk (v:V) (h0':vs = [.bl true,v]) (h1':Q .non H):spRefU_I vs H Q EE
noncomputable def spRefU:Sp:=fun vs H Q EE => spRefU_I vs H Q EE
inductive spPostsIn_I (K:PySem.W.Frag) (vs:List V) (H:Hp) (Q:VK) (EE:XK):Prop
  | mk (v:V) (l:Addr) (ps:List Str) (h0':vs = [v,.ref l]) (h1':H l = some (.lst (ps.map V.str))) (h2':(∀ s ∈ ps,PostS s)) (h3':ps.length <= 100) (h4':∀ p H',Same H H' -> H' p = some (.tup (ps.map V.str)) -> Q (.ref p) H'):spPostsIn_I K vs H Q EE
noncomputable def spPostsIn (K:PySem.W.Frag):Sp:=fun vs H Q EE => spPostsIn_I K vs H Q EE
inductive spTimeIn_I (vs:List V) (H:Hp) (Q:VK) (EE:XK):Prop
  | mk (v:V) (t:Rat) (h0':vs = [v,.str (tmS t)]) (h1':TimR t) (h2':∀ v H',Same H H' -> FrQ H' v t -> Q v H'):spTimeIn_I vs H Q EE
noncomputable def spTimeIn:Sp:=fun vs H Q EE => spTimeIn_I vs H Q EE
inductive spRunIn_I (K:PySem.W.Frag) (vs:List V) (H:Hp) (Q:VK) (EE:XK):Prop
  | mk (l:Addr) (a b:Str) (t:Rat) (h0':vs = [.ref l]) (h1':H l = some (.lst ((wdsP (.run a b t)).map V.str))) (h2':PostS a) (h3':PostS b) (h4':TimR t) (h5':∀ v H',Same H H' -> PRowQ H' v (.run a b t) -> Q v H'):spRunIn_I K vs H Q EE
noncomputable def spRunIn (K:PySem.W.Frag):Sp:=fun vs H Q EE => spRunIn_I K vs H Q EE
inductive spPostsRow_I (K:PySem.W.Frag) (vs:List V) (H:Hp) (Q:VK) (EE:XK):Prop
  | mk (l:Addr) (k:RKind) (t:Rat) (ps:List Str) (h0':vs = [.ref l]) (h1':H l = some (.lst ((wdsP (.path k t ps)).map V.str))) (h2':okP (.path k t ps)) (h3':∀ v H',Same H H' -> PRowQ H' v (.path k t ps) -> Q v H'):spPostsRow_I K vs H Q EE
noncomputable def spPostsRow (K:PySem.W.Frag):Sp:=fun vs H Q EE => spPostsRow_I K vs H Q EE
inductive spPutIn_I (K:PySem.W.Frag) (vs:List V) (H:Hp) (Q:VK) (EE:XK):Prop
  | mk (l d:Addr) (kd:List (Key×V)) (nm cl:Str) (as:List Str) (h0':vs = [.ref l,.ref d]) (h1':H l = some (.lst ((wdsT (.put nm cl as)).map V.str))) (h2':H d = some (.dK kd)) (h3':valV kd (Sum.inr nm) = some (.int (as.length:Int))) (h4':partB cl = true) (h5':(∀ s ∈ as,PostS s)) (h6':(1 <= as.length /\ as.length <= 8)) (h7':∀ v H',Same H H' -> TRowQ H' v (.put nm cl as) -> Q v H'):spPutIn_I K vs H Q EE
noncomputable def spPutIn (K:PySem.W.Frag):Sp:=fun vs H Q EE => spPutIn_I K vs H Q EE
inductive spPlainIn_I (K:PySem.W.Frag) (vs:List V) (H:Hp) (Q:VK) (EE:XK):Prop
  | mk (l d:Addr) (E:List Piece) (r:TRow) (h0':vs = [.ref l,.ref d]) (h1':H l = some (.lst ((wdsT r).map V.str))) (h2':CdQ H d E) (h3':WfT E r) (h4':∀ v H',Same H H' -> TRowQ H' v r -> Q v H'):spPlainIn_I K vs H Q EE
noncomputable def spPlainIn (K:PySem.W.Frag):Sp:=fun vs H Q EE => spPlainIn_I K vs H Q EE
inductive spPieceIn_I (K:PySem.W.Frag) (vs:List V) (H:Hp) (Q:VK) (EE:XK):Prop
  | mk (l d:Addr) (E:List Piece) (x:Piece) (h0':vs = [.ref l,.ref d]) (h1':LsQ H l (("piece" :: x.1 :: x.2.1) :: x.2.2.map wdsT)) (h2':CdQ H d E) (h3':WfP E x) (h4':E.length <= 60) (h5':∀ v H',Same H H' -> PieceQ H' v x -> Q v H'):spPieceIn_I K vs H Q EE
noncomputable def spPieceIn (K:PySem.W.Frag):Sp:=fun vs H Q EE => spPieceIn_I K vs H Q EE
inductive spEndB_I (K:PySem.W.Frag) (vs:List V) (H:Hp) (Q:VK) (EE:XK):Prop
  | mk (l:Addr) (ls:List (List Str)) (a b:Nat) (h0':vs = [.ref l,.int (a:Int)]) (h1':LsQ H l ls) (h2':ls.length <= 60) (h3':a <= b) (h4':ls[b]? = some [("end":Str)]) (h5':(∀ j,a <= j -> j < b -> ∀ ws,ls[j]? = some ws -> ws ≠ [("end":Str)])) (h6':∀ H',Same H H' -> Q (.int (b:Int)) H'):spEndB_I K vs H Q EE
noncomputable def spEndB (K:PySem.W.Frag):Sp:=fun vs H Q EE => spEndB_I K vs H Q EE
inductive spLinesIn_I (K:PySem.W.Frag) (vs:List V) (H:Hp) (Q:VK) (EE:XK):Prop
  | mk (ls:List (List Str)) (h0':vs = [.str (textL ls)]) (h1':ls ≠ []) (h2':ls.length <= 60) (h3':(∀ ws ∈ ls,ws ≠ [] /\ (∀ w ∈ ws,WdS w) /\ (Str.join sp1 ws).length <= 10000)) (h4':(textL ls).length <= 1000000) (h5':∀ l H',Same H H' -> LsQ H' l ls -> Q (.ref l) H'):spLinesIn_I K vs H Q EE
noncomputable def spLinesIn (K:PySem.W.Frag):Sp:=fun vs H Q EE => spLinesIn_I K vs H Q EE
inductive spReadRows_I (K:PySem.W.Frag) (vs:List V) (H:Hp) (Q:VK) (EE:XK):Prop
  | mk (gs:List GRow) (h0':vs = [.str (textL (gs.flatMap linesG))]) (h1':gs ≠ []) (h2':Built gs) (h3':lnN gs <= 60) (h4':(textL (gs.flatMap linesG)).length <= 1000000) (h5':∀ l H',H l = none -> Same H H' -> GsQ H' l gs -> Q (.ref l) H'):spReadRows_I K vs H Q EE
noncomputable def spReadRows (K:PySem.W.Frag):Sp:=fun vs H Q EE => spReadRows_I K vs H Q EE
noncomputable def hdG:GRow -> List Str
  | .one r => wdsT r
  | .piece p => ("piece":Str) :: p.1 :: p.2.1
inductive spWordsOf_I (K:PySem.W.Frag) (vs:List V) (H:Hp) (Q:VK) (EE:XK):Prop
  | mk (v:V) (g:GRow) (E:List Piece) (h0':vs = [v]) (h1':GRowQ H v g) (h2':WfG E [g]) (h3':∀ l H',H l = none -> Same H H' -> H' l = some (.lst ((hdG g).map V.str)) -> Q (.ref l) H'):spWordsOf_I K vs H Q EE
noncomputable def spWordsOf (K:PySem.W.Frag):Sp:=fun vs H Q EE => spWordsOf_I K vs H Q EE
theorem hd_mem (g:GRow):hdG g ∈ linesG g:=by cases g <;> exact List.mem_cons_self ..
theorem hd_len {E:List Piece} {g:GRow} (h:WfG E [g]):(hdG g).length <= 50:=by
  cases g with
  | one r =>
    replace h:=h.1
    cases r with
    | plain r =>
      cases r with
      | run a b t => show 4 <= 50; decide
      | path k t ps =>
        have:=h.2.2.2.1
        show ps.length + 1 + 1 <= 50
        omega
    | put nm cl as =>
      have:=h.2.2.1.2
      show as.length + 1 + 1 + 1 <= 50
      omega
  | piece x =>
    have:=h.1.2.2.2.2.1.2.1
    show x.2.1.length + 1 + 1 <= 50
    omega
inductive spShownR_I (K:PySem.W.Frag) (vs:List V) (H:Hp) (Q:VK) (EE:XK):Prop
  | mk (l:Addr) (gs:List GRow) (h0':vs = [.ref l]) (h1':GsQ H l gs) (h2':Built gs) (h3':lnN gs <= 60) (h4':∀ H',Same H H' -> Q (.str (textL (gs.flatMap linesG))) H'):spShownR_I K vs H Q EE
noncomputable def spShownR (K:PySem.W.Frag):Sp:=fun vs H Q EE => spShownR_I K vs H Q EE
inductive spCell_I (K:PySem.W.Frag) (vs:List V) (H:Hp) (Q:VK) (EE:XK):Prop
  | mk (a:Addr) (ns:List Int) (k:Int) (h0':vs = [.ref a,.int k]) (h1':SqL K H a (ns.map V.int)) (h2':0 <= k) (h3':∀ r,Q (.int r) H):spCell_I K vs H Q EE
noncomputable def spCell (K:PySem.W.Frag):Sp:=fun vs H Q EE => spCell_I K vs H Q EE
inductive spNumW_I (K:PySem.W.Frag) (vs:List V) (H:Hp) (Q:VK) (EE:XK):Prop
  | mk (a:Addr) (ns:List Int) (k:Int) (h0':vs = [.ref a,.int k]) (h1':SqL K H a (ns.map V.int)) (h2':0 <= k) (h3':k <= 1000) (h4':∀ r,0 <= r -> Q (.int r) H):spNumW_I K vs H Q EE
noncomputable def spNumW (K:PySem.W.Frag):Sp:=fun vs H Q EE => spNumW_I K vs H Q EE
inductive spLowest_I (vs:List V) (H:Hp) (Q:VK) (EE:XK):Prop
  | mk (t b:Int) (h0':vs = [.int t,.int b]) (h1':0 < b) (h2':Sm 8000 t) (h3':Sm 8000 b) (h4':∀ p,H p = none -> Q (.ref p) (upd H p (.tup [.int (lowT t b),.int (lowB t b)]))):spLowest_I vs H Q EE
noncomputable def spLowest:Sp:=fun vs H Q EE => spLowest_I vs H Q EE
inductive spNames74_I (K:PySem.W.Frag) (vs:List V) (H:Hp) (Q:VK) (EE:XK):Prop
  | mk (a:Addr) (ns:List Int) (h0':vs = [.ref a]) (h1':SqL K H a (ns.map V.int)) (h2':∀ l H' (U:List Str),H l = none -> Same H H' -> H' l = some (.lst (U.map V.str)) -> U.length = 8 -> (∀ s ∈ U,partB s = true) -> U.Nodup -> Q (.ref l) H'):spNames74_I K vs H Q EE
noncomputable def spNames74 (K:PySem.W.Frag):Sp:=fun vs H Q EE => spNames74_I K vs H Q EE
theorem join_post {x:Str} {r:List Str} (hx:∀ p ∈ x :: r,partB p = true) (hl:r.length <= 3):PostS (Str.join ⟨#[46]⟩ (x :: r)):=by
  constructor
  . show pst _ 1 0 = true
    rw [pst_join r x 1 fun c hc => (part_facts (hx c hc)).2.2,decide_eq_true (show 1 + r.length <= 4 by omega),Bool.true_and,List.all_eq_true]
    exact hx
  . have e2:=PyProof.Rows.len_join_cons ⟨#[46]⟩ x r
    have e3:(⟨#[46]⟩:Str).length = 1:=rfl
    rw [e3] at e2
    have hs:=sum_le (cs:=x :: r) fun c hc => (part_facts (hx c hc)).2.1
    rw [List.length_cons] at hs
    omega
inductive spPost73_I (vs:List V) (H:Hp) (Q:VK) (EE:XK):Prop
  | mk (c:Int) (ln:Addr) (U:List Str) (h0':vs = [.int c,.ref ln]) (h1':0 <= c) (h2':H ln = some (.lst (U.map V.str))) (h3':U.length = 8) (h4':(∀ s ∈ U,partB s = true)) (h5':∀ (s:Str) H',Same H H' -> PostS s -> Q (.str s) H'):spPost73_I vs H Q EE
noncomputable def spPost73:Sp:=fun vs H Q EE => spPost73_I vs H Q EE
theorem at3 {x0 x1 x2:Int} (P:Int -> Prop) (h0:P x0) (h1:P x1) (h2:P x2) (i:Int) (l:0 <= i) (u:i < 3):∃ t:Int,atI [V.int x0,V.int x1,V.int x2] i = some (.int t) /\ P t:=by
  have:i = 0 ∨ i = 1 ∨ i = 2:=by omega
  rcases this with rfl | rfl | rfl
  . exact ⟨_,rfl,h0⟩
  . exact ⟨_,rfl,h1⟩
  . exact ⟨_,rfl,h2⟩
inductive spTime73_I (vs:List V) (H:Hp) (Q:VK) (EE:XK):Prop
  | mk (c:Int) (h0':vs = [.int c]) (h1':0 <= c) (h2':∀ v q H',Same H H' -> FrQ H' v q -> TimR q -> Q v H'):spTime73_I vs H Q EE
noncomputable def spTime73:Sp:=fun vs H Q EE => spTime73_I vs H Q EE
theorem timR_of {t b:Int} (h1:0 < t) (h2:t <= 999999999999) (h3:0 < b) (h4:b <= 999999999999):TimR (Rat.divInt t b):=by
  have hb0:b ≠ 0:=by omega
  have e:=low_rat (t:=t) hb0
  have a1:=lowT_le (t:=t) hb0
  have a2:=lowB_le (t:=t) hb0
  refine ⟨low_pos h1 h3,?_,?_⟩
  . rw [e.1]
    omega
  . have:=e.2
    omega
inductive spPosts73_I (vs:List V) (H:Hp) (Q:VK) (EE:XK):Prop
  | mk (c:Int) (ln:Addr) (U:List Str) (m:Nat) (h0':vs = [.int c,.ref ln,.int (m:Int)]) (h1':0 <= c) (h2':H ln = some (.lst (U.map V.str))) (h3':U.length = 8) (h4':(∀ s ∈ U,partB s = true)) (h5':m <= 100) (h6':∀ p H' (ps:List Str),Same H H' -> H' p = some (.tup (ps.map V.str)) -> ps.length = m -> (∀ s ∈ ps,PostS s) -> Q (.ref p) H'):spPosts73_I vs H Q EE
noncomputable def spPosts73:Sp:=fun vs H Q EE => spPosts73_I vs H Q EE
theorem at5 (i:Int) (l:0 <= i) (u:i < 5):∃ t:Nat,atI [V.int 2,V.int 2,V.int 3,V.int 4,V.int 5] i = some (.int (t:Int)) /\ 2 <= t /\ t <= 5:=by
  have:i = 0 ∨ i = 1 ∨ i = 2 ∨ i = 3 ∨ i = 4:=by omega
  rcases this with rfl | rfl | rfl | rfl | rfl
  . exact ⟨2,rfl,by decide,by decide⟩
  . exact ⟨2,rfl,by decide,by decide⟩
  . exact ⟨3,rfl,by decide,by decide⟩
  . exact ⟨4,rfl,by decide,by decide⟩
  . exact ⟨5,rfl,by decide,by decide⟩
inductive spPlain73_I (vs:List V) (H:Hp) (Q:VK) (EE:XK):Prop
  | mk (c:Int) (ln:Addr) (U:List Str) (h0':vs = [.int c,.ref ln]) (h1':0 <= c) (h2':H ln = some (.lst (U.map V.str))) (h3':U.length = 8) (h4':(∀ s ∈ U,partB s = true)) (h5':∀ (v:V) H' (r:PRow),Same H H' -> PRowQ H' v r -> okP r -> Q v H'):spPlain73_I vs H Q EE
noncomputable def spPlain73:Sp:=fun vs H Q EE => spPlain73_I vs H Q EE
inductive spRow74_I (K:PySem.W.Frag) (vs:List V) (H:Hp) (Q:VK) (EE:XK):Prop
  | mk (c:Int) (ln:Addr) (U:List Str) (lk:Addr) (E:List Piece) (h0':vs = [.int c,.ref ln,.ref lk]) (h1':0 <= c) (h2':H ln = some (.lst (U.map V.str))) (h3':U.length = 8) (h4':(∀ s ∈ U,partB s = true)) (h5':KnQ H lk E) (h6':E.length <= 8) (h7':(∀ p ∈ E,1 <= p.2.1.length /\ p.2.1.length <= 8)) (h8':∀ (v:V) H' (r:TRow),Same H H' -> TRowQ H' v r -> WfT E r -> Q v H'):spRow74_I K vs H Q EE
noncomputable def spRow74 (K:PySem.W.Frag):Sp:=fun vs H Q EE => spRow74_I K vs H Q EE
inductive spClosed_I (K:PySem.W.Frag) (vs:List V) (H:Hp) (Q:VK) (EE:XK):Prop
  | mk (d lf lk:Addr) (U:List Str) (gs:List GRow) (x:Piece) (H0:Hp) (n:Nat) (h0':vs = [.ref d]) (h1':Same H0 H) (h2':StI H0 H d lf lk U gs (some x) n) (h3':x.2.2 ≠ []) (h4':n <= 55) (h5':∀ H',Same H0 H' -> StI H0 H' d lf lk U (gs ++ [.piece x]) none (n + 1) -> Q .non H'):spClosed_I K vs H Q EE
noncomputable def spClosed (K:PySem.W.Frag):Sp:=fun vs H Q EE => spClosed_I K vs H Q EE
inductive spTimeTx_I (vs:List V) (H:Hp) (Q:VK) (EE:XK):Prop
  | mk (v:V) (q:Rat) (h0':vs = [v]) (h1':FrQ H v q) (h2':TimR q) (h3':Q (.str (tmS q)) H):spTimeTx_I vs H Q EE
noncomputable def spTimeTx:Sp:=fun vs H Q EE => spTimeTx_I vs H Q EE
theorem sum_cap:∀ {ys:List Str} {B:Nat},(∀ s ∈ ys,s.length <= B) -> (ys.map (·.length)).sum <= ys.length * B
  | [],_,_ => by simp
  | y :: ys,B,h => by
    have h1:=h y (by simp)
    have h2:=sum_cap (ys:=ys) fun s hs => h s (List.mem_cons_of_mem _ hs)
    rw [List.map_cons,List.sum_cons,List.length_cons,Nat.succ_mul]
    omega
theorem run_text (a b t:Str):Str.join (Str.ofString " ") ["run",a,b] ++ Str.ofString " " ++ t = Str.join sp1 ["run",a,b,t]:=by
  refine str_cps ?_
  rw [cps_cat,cps_cat,join_jn,join_jn]
  simp [jnL]
theorem s_2of4 {K:PySem.W.Frag} {H:Hp} {Q:VK} {p:Addr} {a b c d:V} (h:H p = some (.tup [a,b,c,d])) (k:∀ l,H l = none -> Q (.ref l) (upd H l (.tup [a,b]))):rSlA K (.ref p) none (some 2) H Q:=by
  have e2:HT.sIx 4 4 (some 2) = 2:=by decide
  refine s_tup h ?_ ?_
  . show ¬ (_ /\ HT.sIx 4 4 (some 2) = 4)
    rw [e2]
    exact fun h => absurd h.2 (by decide)
  . rw [show cutV [a,b,c,d] none (some 2) = [a,b] from cut_n (xs:=[a,b,c,d]) 2]
    exact k
noncomputable def lnV (ws:List Str):V:=.str (Str.join sp1 ws)
noncomputable def spRowTxI (K:PySem.W.Frag):Sp:=fun vs H Q _ => ∃ (v:V) (r:TRow) (E:List Piece),vs = [v] /\ TRowQ H v r /\ WfT E r /\ WfE E /\ ∀ l H',H l = none -> Same H H' -> H' l = some (.lst [lnV (wdsT r)]) -> Q (.ref l) H'
inductive spRowTx_I (K:PySem.W.Frag) (vs:List V) (H:Hp) (Q:VK) (EE:XK):Prop
  | mk (v:V) (g:GRow) (E:List Piece) (h0':vs = [v]) (h1':GRowQ H v g) (h2':WfG E [g]) (h3':WfE E) (h4':∀ l H',H l = none -> Same H H' -> H' l = some (.lst ((linesG g).map lnV)) -> Q (.ref l) H'):spRowTx_I K vs H Q EE
noncomputable def spRowTx (K:PySem.W.Frag):Sp:=fun vs H Q EE => spRowTx_I K vs H Q EE
inductive spNext_I (K:PySem.W.Frag) (vs:List V) (H:Hp) (Q:VK) (EE:XK):Prop
  | mk (c:Int) (d lf lk ln:Addr) (U:List Str) (gs:List GRow) (ins:Option Piece) (H0:Hp) (n:Nat) (h0':vs = [.int c,.ref d,.ref ln]) (h1':0 <= c) (h2':Same H0 H) (h3':H0 ln = some (.lst (U.map V.str))) (h4':(U.length = 8 /\ (∀ s ∈ U,partB s = true) /\ U.Nodup)) (h5':StI H0 H d lf lk U gs ins n) (h6':n <= 50) (h7':∀ H' gs' ins',Same H0 H' -> StI H0 H' d lf lk U gs' ins' (n + 1) -> Q .non H'):spNext_I K vs H Q EE
noncomputable def spNext (K:PySem.W.Frag):Sp:=fun vs H Q EE => spNext_I K vs H Q EE
inductive spBuilt_I (K:PySem.W.Frag) (vs:List V) (H:Hp) (Q:VK) (EE:XK):Prop
  | mk (a:Addr) (ns:List Int) (m:Nat) (h0':vs = [.ref a,.int 2,.int (m:Int)]) (h1':SqL K H a (ns.map V.int)) (h2':ns.length <= 63) (h3':m <= 42) (h4':∀ l H' (gs:List GRow),Same H H' -> H l = none -> GsQ H' l gs -> Built gs -> gs ≠ [] -> lnN gs <= 60 -> Q (.ref l) H'):spBuilt_I K vs H Q EE
noncomputable def spBuilt (K:PySem.W.Frag):Sp:=fun vs H Q EE => spBuilt_I K vs H Q EE
theorem lines_cap {gs:List GRow} (hb:Built gs) (hn:lnN gs <= 60):(((gs.flatMap linesG).map (Str.join sp1)).map (·.length)).sum + ((gs.flatMap linesG).map (Str.join sp1)).length * sp3.length <= 16777216 /\ (textL (gs.flatMap linesG)).length <= 1000000:=by
  have hok:=lines_ok (E:=[]) trivial hb.wf
  have hll:=lines_len gs
  have e3:sp3.length = 3:=by decide +kernel
  have h1:=sum_cap (ys:=(gs.flatMap linesG).map (Str.join sp1)) (B:=10000) fun s hs => by
    obtain ⟨ws,hw,rfl⟩:=List.mem_map.mp hs
    exact (hok ws hw).2.2
  have h2:=StrLaws.join_length_le sp3 ((gs.flatMap linesG).map (Str.join sp1))
  rw [List.length_map] at h1 h2
  rw [List.length_map,e3]
  rw [e3] at h2
  refine ⟨by omega,?_⟩
  show (Str.join sp3 _).length <= _
  omega
inductive spText71_I (K:PySem.W.Frag) (vs:List V) (H:Hp) (Q:VK) (EE:XK):Prop
  | mk (l:Addr) (gs:List GRow) (h0':vs = [.ref l]) (h1':GsQ H l gs) (h2':Built gs) (h3':lnN gs <= 60) (h4':∀ H',Same H H' -> Q (.str (textL (gs.flatMap linesG))) H'):spText71_I K vs H Q EE
noncomputable def spText71 (K:PySem.W.Frag):Sp:=fun vs H Q EE => spText71_I K vs H Q EE
inductive spLaw_I (K:PySem.W.Frag) (vs:List V) (H:Hp) (Q:VK) (EE:XK):Prop
  | mk (a:Addr) (ns:List Int) (h0':vs = [.ref a]) (h1':SqL K H a (ns.map V.int)) (h2':ns.length <= 63) (h3':∀ H',Q (.bl true) H'):spLaw_I K vs H Q EE
noncomputable def spLaw (K:PySem.W.Frag):Sp:=fun vs H Q EE => spLaw_I K vs H Q EE
section
variable {P:Program} {w:World} {K:PySem.W.Frag} {mg:Str -> Option Value} {base:Heap} {k:Nat}
theorem ok_is_whole (T:Bl mg) (d:Df K mg "is_whole" s_is_whole ["thing"]  ):Okf P w K mg base (k + 1) "is_whole" ["thing"] (spWhole K):=by
  refine Okf.of d sc_is_whole (fun vs H Q E h => ?_) (fun f cdv A outer s H vs Q E hr h => ?_)
  . obtain ⟨x,t,b,c,rfl,_⟩:=h
    rfl
  . obtain ⟨x,t,b,c,rfl,ty,e1,e2,q⟩:=h
    refine ⟨_,(@pss_one _ _ _ (@ps_ret _ _ _ _ (@pe_and _ _ _ _ _ _ _ (@pe_callB _ _ _ _ _ _ _ _ _ (call_isTy (T:="int")) rfl T.z_isinstance bt_isinstance (@pa_cons _ _ _ _ _ (pv 0) (@pa_cons _ _ _ _ _ (@pe_bltn _ _ (v:=.ty "int") _ _ rfl T.z_int bt_int rfl (by decide) (by decide)) (@pa_nil _) (by rfl)) (by rfl)) (by decide) (by decide) (by rfl) (by rfl)) (@pe_one _ _ _ _ _ (@pe_not _ _ _ _ (@pe_callB _ _ _ _ _ _ _ _ _ (call_isTy (T:="bool")) rfl T.z_isinstance bt_isinstance (@pa_cons _ _ _ _ _ (pv 0) (@pa_cons _ _ _ _ _ (@pe_bltn _ _ (v:=.ty "bool") _ _ rfl T.z_bool bt_bool rfl (by decide) (by decide)) (@pa_nil _) (by rfl)) (by rfl)) (by decide) (by decide) (by rfl) (by rfl))))))),?_⟩
    try dsimp only [cxK_nox,cxK_of]
    walk_at "go"
    refine r_isTy ty e1 ?_
    cases b
    . walk_at "go"
      exact q
    . walk_at "go"
      refine r_isTy ty e2 ?_
      walk_at "go"
      exact q
theorem ok_common_divisor (T:Bl mg) (d:Df K mg "common_divisor" s_common_divisor ["one","other"]  ):Okf P w K mg base (k + 1) "common_divisor" ["one","other"] spGcd:=by
  refine Okf.of d sc_common_divisor (fun vs H Q E h => ?_) (fun f cdv A outer s H vs Q E hr h => ?_)
  . obtain ⟨a,b,rfl,_⟩:=h
    rfl
  . obtain ⟨a,b,rfl,q⟩:=h
    refine ⟨_,(@pss_cons _ _ _ _ _ (@ps_while _ _ _ _ _ _ PassesOwn.never (@pt_cmpR _ _ _ _ _ _ _ _ (op_neA hr.units) (pv 1) (@pe_int _ _ _ _) (nomark _)) (@pss_cons _ _ _ _ _ (@ps_set _ _ (i:=2) _ _ _ _ sc_common_divisor.nd rfl (by first | exact Or.inl rfl | exact Or.inr rfl) (@pe_op _ _ _ _ _ _ _ _ op_modN (pv 0) (pv 1)) (by rfl) (by first | exact .inl rfl | exact .inr rfl | assumption)) (@pss_cons _ _ _ _ _ (@ps_set _ _ (i:=0) _ _ _ _ sc_common_divisor.nd rfl (by first | exact Or.inl rfl | exact Or.inr rfl) (pv 1) (by rfl) (by first | exact .inl rfl | exact .inr rfl | assumption)) (@pss_one _ _ _ (@ps_set _ _ (i:=1) _ _ _ _ sc_common_divisor.nd rfl (by first | exact Or.inl rfl | exact Or.inr rfl) (pv 2) (by rfl) (by first | exact .inl rfl | exact .inr rfl | assumption)))))) (@pss_one _ _ _ (@ps_ret _ _ _ _ (@pe_callB _ _ _ _ _ _ _ _ _ c_abs rfl T.z_abs bt_abs (@pa_cons _ _ _ _ _ (pv 0) (@pa_nil _) (by rfl)) (by decide) (by decide) (by rfl) (by rfl))))),?_⟩
    try dsimp only [cxK_nox,cxK_of]
    walk_at "go"
    refine while_by (fun σ H' => ∃ (one other:Int) (o:Option V),σ = [some (.int one),some (.int other),o] /\ H' = H /\ Int.gcd one other = Int.gcd a b)
      (fun σ _ => match σ with | [_,some (.int z),_] => z.natAbs | _ => 0) ⟨_,_,_,rfl,rfl,rfl⟩ ?_ ?_
    . rintro σ H' ⟨one,other,o,rfl,rfl,hg⟩
      walk_at "go"
      refine i_d (fun c => ?_) (fun c => ?_)
      . subst c
        walk_at "go"
        rw [Int.gcd_zero_right] at hg
        have e:(if one < 0 then -one else one) = (Int.gcd a b:Int):=by rw [← hg]; split <;> omega
        rw [e]
        exact q
      . walk_at "go"
        refine ⟨⟨_,_,_,rfl,rfl,by rw [gcd_stepN c]; exact hg⟩,?_⟩
        show (one.fmod other).natAbs < other.natAbs
        exact fmod_lt c
    . intro σ H Q Q' hQ h
      obtain ⟨v,e1,h⟩:=h
      rcases h with ⟨e2,b',e3,q'⟩ | ⟨d,e,e2,e3,e4,e5,b',e6,q'⟩
      . exact ⟨v,e1,.inl ⟨e2,b',e3,hQ _ _ q'⟩⟩
      . exact ⟨v,e1,.inr ⟨d,e,e2,e3,e4,e5,b',e6,hQ _ _ q'⟩⟩
theorem ok_is_fraction (T:Bl mg) (d:Df K mg "is_fraction" s_is_fraction ["thing"]  ) (o_common_divisor:Okf P w K mg base k "common_divisor" ["one","other"] spGcd) (o_is_whole:Okf P w K mg base k "is_whole" ["thing"] (spWhole K)):Okf P w K mg base (k + 1) "is_fraction" ["thing"] (spIsFrac K):=by
  refine Okf.of d sc_is_fraction (fun vs H Q E h => ?_) (fun f cdv A outer s H vs Q E hr h => ?_)
  . obtain ⟨x,r,rfl,_⟩:=h
    rfl
  . obtain ⟨x,r,rfl,h,q⟩:=h
    refine ⟨_,(@pss_cons _ _ _ _ _ (@ps_if _ _ _ _ _ _ _ _ (@PW.pt _ _ _ (@pw_or _ _ _ _ _ _ _ (@pt_not _ _ _ _ (@pt_val _ _ _ (@pe_callB _ _ _ _ _ _ _ _ _ (call_isTy (T:="tuple")) rfl T.z_isinstance bt_isinstance (@pa_cons _ _ _ _ _ (pv 0) (@pa_cons _ _ _ _ _ (@pe_bltn _ _ (v:=.ty "tuple") _ _ rfl T.z_tuple bt_tuple rfl (by decide) (by decide)) (@pa_nil _) (by rfl)) (by rfl)) (by decide) (by decide) (by rfl) (by rfl)) (by intro _; rfl))) (@pw_or1 _ _ _ _ (@pt_cmpR _ _ _ _ _ _ _ _ (op_neA hr.units) (@pe_callB _ _ _ _ _ _ _ _ _ c_len rfl T.z_len bt_len (@pa_cons _ _ _ _ _ (pv 0) (@pa_nil _) (by rfl)) (by decide) (by decide) (by rfl) (by rfl)) (@pe_int _ _ _ _) (nomark _))))) (@pss_one _ _ _ (@ps_ret _ _ _ _ (@pe_bl _ _ _ _))) (@pss_nil _)) (@pss_cons _ _ _ _ _ (@ps_if _ _ _ _ _ _ _ _ (@PW.pt _ _ _ (@pw_or _ _ _ _ _ _ _ (@pt_not _ _ _ _ (@pt_val _ _ _ (@pe_callO _ _ _ _ _ _ _ _ _ _ o_is_whole hr rfl (@pa_cons _ _ _ _ _ (@pe_ix _ _ _ _ _ _ _ ix_LT (pv 0) (@pe_int _ _ _ _) (fun _ _ => rfl)) (@pa_nil _) (by rfl)) (by decide) (by rfl) (by rfl)) (by intro _; rfl))) (@pw_or1 _ _ _ _ (@pt_not _ _ _ _ (@pt_val _ _ _ (@pe_callO _ _ _ _ _ _ _ _ _ _ o_is_whole hr rfl (@pa_cons _ _ _ _ _ (@pe_ix _ _ _ _ _ _ _ ix_LT (pv 0) (@pe_int _ _ _ _) (fun _ _ => rfl)) (@pa_nil _) (by rfl)) (by decide) (by rfl) (by rfl)) (by intro _; rfl)))))) (@pss_one _ _ _ (@ps_ret _ _ _ _ (@pe_bl _ _ _ _))) (@pss_nil _)) (@pss_one _ _ _ (@ps_ret _ _ _ _ (@pe_and _ _ _ _ _ _ _ (@pe_cmpR _ _ _ _ _ _ _ _ op_ge (@pe_ix _ _ _ _ _ _ _ ix_LT (pv 0) (@pe_int _ _ _ _) (fun _ _ => rfl)) (@pe_int _ _ _ _) (nomark _)) (@pe_one _ _ _ _ _ (@pe_cmpR _ _ _ _ _ _ _ _ (op_eqA hr.units) (@pe_callO _ _ _ _ _ _ _ _ _ _ o_common_divisor hr rfl (@pa_cons _ _ _ _ _ (@pe_ix _ _ _ _ _ _ _ ix_LT (pv 0) (@pe_int _ _ _ _) (fun _ _ => rfl)) (@pa_cons _ _ _ _ _ (@pe_ix _ _ _ _ _ _ _ ix_LT (pv 0) (@pe_int _ _ _ _) (fun _ _ => rfl)) (@pa_nil _) (by rfl)) (by rfl)) (by decide) (by rfl) (by rfl)) (@pe_int _ _ _ _) (nomark _)))))))),?_⟩
    try dsimp only [cxK_nox,cxK_of]
    rcases h with ⟨⟨t,ty,e1⟩,rfl⟩ | ⟨p,xs,rfl,h1,h2,rfl⟩ | ⟨p,v,w',rfl,h1,fv,fw,hsm,rfl⟩
    . walk_at "go"
      refine r_isTy ty e1 ?_
      walk_at "go"
      exact q
    . walk_at "go"
      refine r_isTy (.tup h1) kit_tuple_tuple ?_
      walk_at "go"
      exact q
    . walk_at "go"
      refine r_isTy (.tup h1) kit_tuple_tuple ?_
      walk_at "go"
      refine i_d (fun _ => ?_) (fun c => absurd rfl c)
      walk_at "go"
      obtain ⟨t1,b1,c1,ty1,k1,k2,e1⟩:=flat_ty (K:=K) (H:=H) fv
      refine ⟨v,t1,b1,c1,rfl,ty1,k1,k2,?_⟩
      rw [e1]
      walk_at "go"
      cases v with
      | int a =>
        refine i_bT rfl ?_
        walk_at "go"
        obtain ⟨t2,b2,c2,ty2,k3,k4,e2⟩:=flat_ty (K:=K) (H:=H) fw
        refine ⟨w',t2,b2,c2,rfl,ty2,k3,k4,?_⟩
        rw [e2]
        walk_at "go"
        cases w' with
        | int b =>
          refine i_bT rfl ?_
          walk_at "go"
          refine i_d (fun c => ?_) (fun c => ?_)
          . walk_at "go"
            refine ⟨a,b,rfl,?_⟩
            walk_at "go"
            have e:decide ((Int.gcd a b:Int) = 1) = frV (.int a) (.int b):=by
              show _ = (decide (1 <= b) && decide (Int.gcd a b = 1))
              rw [decide_eq_true c,Bool.true_and]
              by_cases hg:Int.gcd a b = 1
              . rw [decide_eq_true hg,decide_eq_true (by omega)]
              . rw [decide_eq_false hg,decide_eq_false (by omega)]
            rw [e]
            exact q
          . walk_at "go"
            have e:frV (.int a) (.int b) = false:=by
              show (decide (1 <= b) && decide (Int.gcd a b = 1)) = false
              rw [decide_eq_false c,Bool.false_and]
            rw [e] at q
            exact q
        | non => refine i_bF rfl ?_; walk_at "go"; exact q
        | bl _ => refine i_bF rfl ?_; walk_at "go"; exact q
        | str _ => refine i_bF rfl ?_; walk_at "go"; exact q
        | _ => exact absurd (show false = true from fw) Bool.false_ne_true
      | non => refine i_bF rfl ?_; walk_at "go"; exact q
      | bl _ => refine i_bF rfl ?_; walk_at "go"; exact q
      | str _ => refine i_bF rfl ?_; walk_at "go"; exact q
      | _ => exact absurd (show false = true from fv) Bool.false_ne_true
theorem ok_is_written (T:Bl mg) (d:Df K mg "is_written" s_is_written ["word","most"]  ) {tk_FIGURES:Tok} (g_FIGURES:mg "FIGURES" = some (.str "0123456789" tk_FIGURES)):Okf P w K mg base (k + 1) "is_written" ["word","most"] spWrit:=by
  refine Okf.of d sc_is_written (fun vs H Q E h => ?_) (fun f cdv A outer s H vs Q E hr h => ?_)
  . obtain ⟨z,rfl,_⟩:=h
    rfl
  . obtain ⟨z,rfl,hd,h1,h12,⟨c0,r0,e0,hc0⟩,q⟩:=h
    refine ⟨_,(@pss_one _ _ _ (@ps_ret _ _ _ _ (@pe_and _ _ _ _ _ _ _ (@pe_chain _ _ _ _ _ _ _ _ _ _ _ _ op_le op_le (@pe_int _ _ _ _) (@pe_callB _ _ _ _ _ _ _ _ _ c_len rfl T.z_len bt_len (@pa_cons _ _ _ _ _ (pv 0) (@pa_nil _) (by rfl)) (by decide) (by decide) (by rfl) (by rfl)) (pv 1) (by with_unfolding_all rfl)) (@pe_and _ _ _ _ _ _ _ (@pe_callB _ _ _ _ _ _ _ _ _ (c_allB rfl) rfl T.z_all bt_all (@pa_cons _ _ _ _ _ (@pe_comp _ _ _ _ _ _ _ _ _ _ _ _ _ _ (@comp_ck _ _ (sc:=defScope s_is_written) (N:=["word","most"]) (tn:=["sign"]) (names:=[]) (is:=[]) rfl rfl (by decide +kernel) (by decide +kernel) rfl (by decide +kernel) rfl (by decide +kernel) (by decide +kernel) (by decide +kernel)) rfl (@pi_signs _ _ _ _ (pv 0)) (fun _ _ _ _ => (@pg_name _ _ (i:=0) _ (show (["sign"]:List Str).Nodup by decide +kernel) rfl (Or.inl rfl) (Or.inr rfl))) (fun _ _ _ _ => (@pe_cmpR _ _ _ _ _ _ _ _ op_inTx (pv 0) (@pe_glob _ _ (v:=(.str "0123456789")) _ _ rfl g_FIGURES ⟨_,rfl⟩ (by decide)) (by with_unfolding_all rfl))) (fun _ _ _ _ => (@pts_none _)) (by intro _; rfl)) (@pa_nil _) (by rfl)) (by decide) (by decide) (by rfl) (by rfl)) (@pe_one _ _ _ _ _ (@pe_cmpR _ _ _ _ _ _ _ _ (op_neA hr.units) (@pe_ix _ _ _ _ _ _ _ ix_LT (pv 0) (@pe_int _ _ _ _) (fun _ _ => rfl)) (@pe_str _ _ _ _) (nomark _))))))),?_⟩
    try dsimp only [cxK_nox,cxK_of]
    walk_at "go"
    have hzs:z.length <= sizeLine:=by rw [sizeLine_eq]; omega
    refine r_lens hzs ?_
    walk_at "go"
    refine ⟨z,rfl,?_⟩
    refine r_compS (by omega) (fun acc i ys G => Kp acc H G /\ ys = (z.cps.toList.take i).map fun c => V.bl (decide (48 <= c) && decide (c < 58))) (fun acc h0 => ⟨Kp.new h0,rfl⟩) ?_ ?_
    . intro acc i ys G c h0 hx hyl hG ⟨kp,e⟩
      walk_at "go"
      have hx':z.cps.toList[i]? = some c:=by simpa using hx
      have hi:i < z.cps.toList.length:=(List.getElem?_eq_some_iff.mp hx').1
      refine c_next (by rw [len_cps]; exact hi) hyl hG ⟨Kp.trans kp Kp.upd,?_⟩
      have e2:z.cps.toList[i] = c:=by
        rw [List.getElem?_eq_getElem hi] at hx'
        exact Option.some.inj hx'
      rw [List.take_succ_eq_append_getElem hi,List.map_append,← e,e2,figures_mem]
      rfl
    . intro acc ys G h0 hG hl ⟨kp,e⟩
      walk_at "go"
      rw [len_cps,List.take_length] at e
      subst e
      have e3:(z.cps.toList.map fun c => V.bl (decide (48 <= c) && decide (c < 58))) = (z.cps.toList.map fun c => (decide (48 <= c) && decide (c < 58))).map V.bl:=by rw [List.map_map]; rfl
      rw [e3] at hG
      refine r_allB hG ?_
      have e4:(z.cps.toList.map fun c => (decide (48 <= c) && decide (c < 58))).all id = true:=by
        rw [List.all_map,List.all_eq_true]
        intro c hc
        have:=hd c hc
        show (decide (48 <= c) && decide (c < 58)) = true
        rw [decide_eq_true this.1,decide_eq_true this.2]
        rfl
      rw [e4]
      walk_at "go"
      refine r_ixS (by omega) (c:=c0) (by rw [e0]; exact (show atI (c0 :: r0) ((0:Nat):Int) = some c0 from atI_nat rfl)) ?_
      walk_at "go"
      have e5:((⟨#[c0]⟩:Str) == Str.ofString "0") = false:=by
        rw [show Str.ofString "0" = ⟨#[48]⟩ by decide +kernel]
        exact beq_eq_false_iff_ne.mpr fun z => hc0 (by simpa using z)
      rw [e5]
      exact q _ (Same.kpn h0 (Same.refl _) kp)
set_option maxHeartbeats 0 in
theorem ok_read_time (T:Bl mg) (d:Df K mg "read_time" s_read_time ["word"]  ) {tk_MOST_FIGURES:Tok} (g_MOST_FIGURES:mg "MOST_FIGURES" = some (.int 12 tk_MOST_FIGURES)) (o_is_fraction:Okf P w K mg base k "is_fraction" ["thing"] (spIsFrac K)) (o_is_written:Okf P w K mg base k "is_written" ["word","most"] spWrit):Okf P w K mg base (k + 1) "read_time" ["word"] spReadT:=by
  refine Okf.of d sc_read_time (fun vs H Q E h => ?_) (fun f cdv A outer s H vs Q E hr h => ?_)
  . obtain ⟨t,rfl,_⟩:=h
    rfl
  . obtain ⟨t,rfl,ht,q⟩:=h
    refine ⟨_,(@pss_cons _ _ _ _ _ (@ps_set _ _ (i:=1) _ _ _ _ sc_read_time.nd rfl (by first | exact Or.inl rfl | exact Or.inr rfl) (@pe_bm _ _ _ _ _ _ _ _ _ _ _ _ PySem.F.plainAttrs_str PySem.F.slot_str_split PySem.F.type_str_split mt_split (pv 0) (@pa_cons _ _ _ _ _ (@pe_str _ _ _ _) (@pa_nil _) (by rfl)) (by rfl) (by rfl) (by rfl) (by rfl) (by rfl)) (by rfl) (by first | exact .inl rfl | exact .inr rfl | assumption)) (@pss_cons _ _ _ _ _ (@ps_if _ _ _ _ _ _ _ _ (@PW.pt _ _ _ (@pw_or _ _ _ _ _ _ _ (@pt_cmpR _ _ _ _ _ _ _ _ op_gt (@pe_callB _ _ _ _ _ _ _ _ _ c_len rfl T.z_len bt_len (@pa_cons _ _ _ _ _ (pv 1) (@pa_nil _) (by rfl)) (by decide) (by decide) (by rfl) (by rfl)) (@pe_int _ _ _ _) (nomark _)) (@pw_or1 _ _ _ _ (@pt_not _ _ _ _ (@pt_val _ _ _ (@pe_callB _ _ _ _ _ _ _ _ _ (c_allB rfl) rfl T.z_all bt_all (@pa_cons _ _ _ _ _ (@pe_comp _ _ _ _ _ _ _ _ _ _ _ _ _ _ (@comp_ck _ _ (sc:=defScope s_read_time) (N:=["word","parts","time"]) (tn:=["part"]) (names:=[]) (is:=[]) rfl rfl (by decide +kernel) (by decide +kernel) rfl (by decide +kernel) rfl (by decide +kernel) (by decide +kernel) (by decide +kernel)) rfl (@pi_list _ _ _ _ (pv 1)) (fun _ _ _ _ => (@pg_name _ _ (i:=0) _ (show (["part"]:List Str).Nodup by decide +kernel) rfl (Or.inl rfl) (Or.inr rfl))) (fun _ _ _ _ => (@pe_callO _ _ _ _ _ _ _ _ _ _ o_is_written hr rfl (@pa_cons _ _ _ _ _ (pv 0) (@pa_cons _ _ _ _ _ (@pe_glob _ _ (v:=(.int 12)) _ _ rfl g_MOST_FIGURES ⟨_,rfl⟩ (by decide)) (@pa_nil _) (by rfl)) (by rfl)) (by decide) (by rfl) (by rfl))) (fun _ _ _ _ => (@pts_none _)) (by intro _; rfl)) (@pa_nil _) (by rfl)) (by decide) (by decide) (by rfl) (by rfl)) (by intro _; rfl)))))) (@pss_one _ _ _ (@ps_ret _ _ _ _ (@pe_non _ _ _))) (@pss_nil _)) (@pss_cons _ _ _ _ _ (@ps_if _ _ _ _ _ _ _ _ (@pt_cmpR _ _ _ _ _ _ _ _ (op_eqA hr.units) (@pe_callB _ _ _ _ _ _ _ _ _ c_len rfl T.z_len bt_len (@pa_cons _ _ _ _ _ (pv 1) (@pa_nil _) (by rfl)) (by decide) (by decide) (by rfl) (by rfl)) (@pe_int _ _ _ _) (nomark _)) (@pss_one _ _ _ (@ps_ret _ _ _ _ (@pe_tup _ _ _ _ _ (@pa_cons _ _ _ _ _ (@pe_callTy _ _ _ _ _ _ _ _ _ c_intS rfl T.z_int bt_int (@pa_cons _ _ _ _ _ (pv 0) (@pa_nil _) (by rfl)) (by decide) (by decide) (by rfl) (by rfl)) (@pa_cons _ _ _ _ _ (@pe_int _ _ _ _) (@pa_nil _) (by rfl)) (by rfl))))) (@pss_nil _)) (@pss_cons _ _ _ _ _ (@ps_set _ _ (i:=2) _ _ _ _ sc_read_time.nd rfl (by first | exact Or.inl rfl | exact Or.inr rfl) (@pe_tup _ _ _ _ _ (@pa_cons _ _ _ _ _ (@pe_callTy _ _ _ _ _ _ _ _ _ c_intS rfl T.z_int bt_int (@pa_cons _ _ _ _ _ (@pe_ix _ _ _ _ _ _ _ ix_LT (pv 1) (@pe_int _ _ _ _) (fun _ _ => rfl)) (@pa_nil _) (by rfl)) (by decide) (by decide) (by rfl) (by rfl)) (@pa_cons _ _ _ _ _ (@pe_callTy _ _ _ _ _ _ _ _ _ c_intS rfl T.z_int bt_int (@pa_cons _ _ _ _ _ (@pe_ix _ _ _ _ _ _ _ ix_LT (pv 1) (@pe_int _ _ _ _) (fun _ _ => rfl)) (@pa_nil _) (by rfl)) (by decide) (by decide) (by rfl) (by rfl)) (@pa_nil _) (by rfl)) (by rfl))) (by rfl) (by first | exact .inl rfl | exact .inr rfl | assumption)) (@pss_one _ _ _ (@ps_ret _ _ _ _ (@pe_ifExp _ _ _ _ _ _ _ _ (@PW.pt _ _ _ (@pw_and _ _ _ _ _ _ _ (@pt_cmpR _ _ _ _ _ _ _ _ op_gt (@pe_ix _ _ _ _ _ _ _ ix_LT (pv 2) (@pe_int _ _ _ _) (fun _ _ => rfl)) (@pe_int _ _ _ _) (nomark _)) (@pw_and1 _ _ _ _ (@pt_val _ _ _ (@pe_callO _ _ _ _ _ _ _ _ _ _ o_is_fraction hr rfl (@pa_cons _ _ _ _ _ (pv 2) (@pa_nil _) (by rfl)) (by decide) (by rfl) (by rfl)) (by intro _; rfl))))) (pv 2) (@pe_non _ _ _)))))))),?_⟩
    try dsimp only [cxK_nox,cxK_of]
    have n1:=ht.num
    have n2:=ht.den
    have w:=tm_wd ht
    have ep:("/":Str) = ⟨#[47]⟩:=by decide +kernel
    have es:=tm_split ht
    have wr:∀ {z:Int},1 <= z -> z < 10 ^ 12 -> DigS (numS z) /\ 1 <= (numS z).length /\ (numS z).length <= 12 /\ ∃ c r,(numS z).cps.toList = c :: r /\ c ≠ 48:=fun h1 h2 => ⟨num_dig (by omega),(num_len (by omega) h2).1,(num_len (by omega) h2).2,num_hd h1⟩
    walk_at "go"
    rw [ep]
    refine r_split (z:=tmS t) (y:=⟨#[47]⟩) (by decide) (by have:=w.2.2; omega) fun l hl => ?_
    rw [es]
    obtain ⟨ps,eps,hpl,hall⟩:∃ ps:List Str,(if t.den = 1 then [numS t.num] else [numS t.num,numS (t.den:Int)]) = ps /\ (1 <= ps.length /\ ps.length <= 2) /\ ∀ p ∈ ps,DigS p /\ 1 <= p.length /\ p.length <= 12 /\ ∃ c r,p.cps.toList = c :: r /\ c ≠ 48:=by
      refine ⟨_,rfl,?_,?_⟩
      . split
        . exact ⟨Nat.le_refl 1,by show 1 <= 2; decide⟩
        . exact ⟨by show 1 <= 2; decide,Nat.le_refl 2⟩
      . intro p hp
        split at hp
        . rw [List.mem_singleton.mp hp]
          exact wr n1.1 n1.2
        . rcases List.mem_cons.mp hp with rfl | hp
          . exact wr n1.1 n1.2
          . rw [List.mem_singleton.mp hp]
            exact wr n2.1 n2.2
    rw [eps]
    have s1:=Same.new (o:=.lst (ps.map V.str)) hl
    have g1:=upd_same (H:=H) (a:=l) (o:=.lst (ps.map V.str))
    generalize L2.upd H l (.lst (ps.map V.str)) = H1 at s1 g1 ⊢
    have hml:(ps.map V.str).length = ps.length:=List.length_map _
    walk_at "go"
    refine r_listK (SqL.of g1) ?_
    refine r_compL (xs:=ps.map V.str) (by omega) (fun acc i ys G => Kp acc H1 G /\ ys = (List.replicate i true).map V.bl) (fun acc h0 => ⟨Kp.new h0,rfl⟩) ?_ ?_ ?_
    . intro acc i ys G h0 _ ⟨kp,_⟩
      exact SqL.of (kp _ _ (ne_of_none g1 h0) g1)
    . intro acc i ys G x h0 hx hyl hG ⟨kp,e⟩
      rw [List.getElem?_map] at hx
      cases hy:ps[i]? with
      | none => rw [hy] at hx; cases hx
      | some y =>
        rw [hy] at hx
        cases (Option.some.inj hx:V.str y = x)
        obtain ⟨a1,a2,a3,a4⟩:=hall y (List.mem_of_getElem? hy)
        walk_at "go"
        refine ⟨y,rfl,a1,a2,a3,a4,fun G1 t1 => ?_⟩
        have hi:i < ps.length:=(List.getElem?_eq_some_iff.mp hy).1
        refine c_next (by omega) hyl (t1 _ _ hG) ⟨Kp.trans (Kp.trans kp t1.kp) Kp.upd,?_⟩
        rw [e,List.replicate_succ',List.map_append]
        rfl
    intro acc ys G h0 hG hyl ⟨kp,e⟩
    subst e
    have sG:Same H1 G:=fun b o h => kp _ _ (ne_of_none h h0) h
    have gG:=sG _ _ g1
    walk_at "go"
    refine r_allB hG ?_
    rw [show (List.replicate (ps.map V.str).length true).all id = true by rw [List.all_eq_true]; intro b hb; rw [List.eq_of_mem_replicate hb]; rfl]
    walk_at "go"
    by_cases hd:t.den = 1
    . have e1:ps = [numS t.num]:=by rw [← eps,if_pos hd]
      subst e1
      have hl1:(List.map V.str [numS t.num]).length = 1:=rfl
      walk_at "go"
      refine ⟨_,t.num,rfl,?_,by have:=w.2.2; omega,?_⟩
      . rw [show tmS t = numS t.num by unfold tmS; rw [if_pos hd]]
        exact num_int (by omega) n1.2
      walk_at "go"
      refine r_tupK fun p hp => ?_
      walk_at "go"
      exact q _ _ ((s1.trans sG).trans (Same.new hp)) ⟨p,rfl,by rw [upd_same,hd]; rfl⟩
    . have e1:ps = [numS t.num,numS (t.den:Int)]:=by rw [← eps,if_neg hd]
      subst e1
      have hl1:(List.map V.str [numS t.num,numS (t.den:Int)]).length = 2:=rfl
      have l1:=(num_len (n:=t.num) (by omega) n1.2).2
      have l2:=(num_len (n:=(t.den:Int)) (by omega) n2.2).2
      walk_at "go"
      refine ⟨_,t.num,rfl,num_int (by omega) n1.2,by omega,?_⟩
      walk_at "go"
      refine ⟨_,(t.den:Int),rfl,num_int (by omega) n2.2,by omega,?_⟩
      walk_at "go"
      refine r_tupK fun p hp => ?_
      have s2:=Same.new (o:=.tup [.int t.num,.int (t.den:Int)]) hp
      have g2:=upd_same (H:=G) (a:=p) (o:=.tup [.int t.num,.int (t.den:Int)])
      generalize L2.upd G p (.tup [.int t.num,.int (t.den:Int)]) = G2 at s2 g2 ⊢
      walk_at "go"
      have hf:Frq K G2 (.ref p) true:=.inr (.inr ⟨p,_,_,rfl,g2,rfl,rfl,(fun a b ea eb => by cases ea; cases eb; exact ⟨(Sm.of (n:=64) (by omega) (by omega)).mono (by decide),(Sm.of (n:=64) (by omega) (by omega)).mono (by decide)⟩),(fr_frV t).symm⟩)
      refine ⟨_,true,rfl,hf,?_⟩
      walk_at "go"
      exact q _ _ ((s1.trans sG).trans s2) ⟨p,rfl,g2⟩
theorem ok_shown_whole (T:Bl mg) (d:Df K mg "shown_whole" s_shown_whole ["whole"]  ):Okf P w K mg base (k + 1) "shown_whole" ["whole"] spShownW:=by
  refine Okf.of d sc_shown_whole (fun vs H Q E h => ?_) (fun f cdv A outer s H vs Q E hr h => ?_)
  . obtain ⟨n,rfl,_⟩:=h
    rfl
  . obtain ⟨n,rfl,h0,h1,q⟩:=h
    refine ⟨_,(@pss_cons _ _ _ _ _ (@ps_set _ _ (i:=1) _ _ _ _ sc_shown_whole.nd rfl (by first | exact Or.inl rfl | exact Or.inr rfl) (@pe_op _ _ _ _ _ _ _ _ op_pow (@pe_int _ _ _ _) (@pe_int _ _ _ _)) (by rfl) (by first | exact .inl rfl | exact .inr rfl | assumption)) (@pss_cons _ _ _ _ _ (@ps_set _ _ (i:=2) _ _ _ _ sc_shown_whole.nd rfl (by first | exact Or.inl rfl | exact Or.inr rfl) (@pe_callB _ _ _ _ _ _ _ _ _ c_abs rfl T.z_abs bt_abs (@pa_cons _ _ _ _ _ (pv 0) (@pa_nil _) (by rfl)) (by decide) (by decide) (by rfl) (by rfl)) (by rfl) (by first | exact .inl rfl | exact .inr rfl | assumption)) (@pss_cons _ _ _ _ _ (@ps_set _ _ (i:=3) _ _ _ _ sc_shown_whole.nd rfl (by first | exact Or.inl rfl | exact Or.inr rfl) (@pe_str _ _ _ _) (by rfl) (by first | exact .inl rfl | exact .inr rfl | assumption)) (@pss_cons _ _ _ _ _ (@ps_while _ _ _ _ _ _ PassesOwn.never (@pt_cmpR _ _ _ _ _ _ _ _ op_ge (pv 2) (pv 1) (nomark _)) (@pss_cons _ _ _ _ _ (@ps_never _ _) (@pss_one _ _ _ (@ps_never _ _)))) (@pss_cons _ _ _ _ _ (@ps_set _ _ (i:=3) _ _ _ _ sc_shown_whole.nd rfl (by first | exact Or.inl rfl | exact Or.inr rfl) (@pe_op _ _ _ _ _ _ _ _ op_addA (@pe_callTy _ _ _ _ _ _ _ _ _ c_strI rfl T.z_str bt_str (@pa_cons _ _ _ _ _ (pv 2) (@pa_nil _) (by rfl)) (by decide) (by decide) (by rfl) (by rfl)) (pv 3)) (by rfl) (by first | exact .inl rfl | exact .inr rfl | assumption)) (@pss_one _ _ _ (@ps_ret _ _ _ _ (@pe_ifExp _ _ _ _ _ _ _ _ (@pt_cmpR _ _ _ _ _ _ _ _ op_ge (pv 0) (@pe_int _ _ _ _) (nomark _)) (pv 3) (@pe_op _ _ _ _ _ _ _ _ op_addA (@pe_str _ _ _ _) (pv 3)))))))))),?_⟩
    try dsimp only [cxK_nox,cxK_of]
    have hl:=(num_len h0 h1).2
    walk_at "go"
    refine r_pow64 ?_
    walk_at "go"
    rw [if_neg (show ¬ n < 0 by omega)]
    walk_at "go"
    refine r_whileO (fun _ σ G => σ = [some (.int n),some (.int (10 ^ 64)),some (.int n),some (.str "")] /\ G = H) (m0:=0) ⟨rfl,rfl⟩ ?_
    rintro m σ G ⟨rfl,rfl⟩
    walk_at "go"
    refine ⟨n,rfl,by omega,?_⟩
    walk_at "go"
    refine r_addS (a:=numS n) (b:=Str.ofString "") (by show (numS n).length + 0 <= _; omega) ?_
    walk_at "go"
    . rw [show numS n ++ Str.ofString "" = numS n from str_cps (by rw [cps_cat]; show _ ++ [] = _; rw [List.append_nil])]
      exact q
theorem ok_shown_fraction (T:Bl mg) (d:Df K mg "shown_fraction" s_shown_fraction ["each"]  ) (o_shown_whole:Okf P w K mg base k "shown_whole" ["whole"] spShownW):Okf P w K mg base (k + 1) "shown_fraction" ["each"] spShownF:=by
  refine Okf.of d sc_shown_fraction (fun vs H Q E h => ?_) (fun f cdv A outer s H vs Q E hr h => ?_)
  . obtain ⟨v,t,rfl,_⟩:=h
    rfl
  . obtain ⟨v,t,rfl,⟨p,rfl,hp⟩,ht,q⟩:=h
    refine ⟨_,(@pss_cons _ _ _ _ _ (@ps_set _ _ (i:=1) _ _ _ _ sc_shown_fraction.nd rfl (by first | exact Or.inl rfl | exact Or.inr rfl) (@pe_callO _ _ _ _ _ _ _ _ _ _ o_shown_whole hr rfl (@pa_cons _ _ _ _ _ (@pe_ix _ _ _ _ _ _ _ ix_LT (pv 0) (@pe_int _ _ _ _) (fun _ _ => rfl)) (@pa_nil _) (by rfl)) (by decide) (by rfl) (by rfl)) (by rfl) (by first | exact .inl rfl | exact .inr rfl | assumption)) (@pss_cons _ _ _ _ _ (@ps_if _ _ _ _ _ _ _ _ (@pt_cmpR _ _ _ _ _ _ _ _ (op_eqA hr.units) (@pe_ix _ _ _ _ _ _ _ ix_LT (pv 0) (@pe_int _ _ _ _) (fun _ _ => rfl)) (@pe_int _ _ _ _) (nomark _)) (@pss_one _ _ _ (@ps_ret _ _ _ _ (pv 1))) (@pss_nil _)) (@pss_cons _ _ _ _ _ (@ps_set _ _ (i:=2) _ _ _ _ sc_shown_fraction.nd rfl (by first | exact Or.inl rfl | exact Or.inr rfl) (@pe_callO _ _ _ _ _ _ _ _ _ _ o_shown_whole hr rfl (@pa_cons _ _ _ _ _ (@pe_ix _ _ _ _ _ _ _ ix_LT (pv 0) (@pe_int _ _ _ _) (fun _ _ => rfl)) (@pa_nil _) (by rfl)) (by decide) (by rfl) (by rfl)) (by rfl) (by first | exact .inl rfl | exact .inr rfl | assumption)) (@pss_one _ _ _ (@ps_ret _ _ _ _ (@pe_fsx _ _ _ _ _ _ (@pj_cons _ _ _ _ _ (@pe_fms _ _ _ _ (pv 1)) (@pj_cons _ _ _ _ _ (@pe_str _ _ _ _) (@pj_cons _ _ _ _ _ (@pe_fms _ _ _ _ (pv 2)) (@pj_nil _)))) (by decide))))))),?_⟩
    try dsimp only [cxK_nox,cxK_of]
    have hn:=ht.num
    have hd:=ht.den
    have l1:=(num_len (by omega:0 <= t.num) hn.2).2
    have l2:=(num_len (by omega:0 <= (t.den:Int)) hd.2).2
    have e0:∀ z:Str,Str.empty ++ z = z:=fun z => str_cps (by show ((#[]:Array Nat) ++ z.cps).toList = _; simp)
    have es:Str.ofString "/" = ⟨#[47]⟩:=by decide +kernel
    walk_at "go"
    refine ⟨t.num,rfl,by omega,hn.2,?_⟩
    walk_at "go"
    refine i_d (fun c1 => ?_) (fun c1 => ?_)
    . walk_at "go"
      rw [show tmS t = numS t.num from if_pos (by omega)] at q
      exact q
    walk_at "go"
    refine ⟨(t.den:Int),rfl,by omega,hd.2,?_⟩
    walk_at "go"
    refine r_fsK (by omega) ?_
    refine r_jxK (by omega) ?_
    walk_at "go"
    refine r_jxK (by decide) ?_
    walk_at "go"
    refine r_fsK (by omega) ?_
    refine r_jxK (by omega) ?_
    walk_at "go"
    rw [show tmS t = numS t.num ++ ⟨#[47]⟩ ++ numS (t.den:Int) from if_neg (by omega)] at q
    rw [e0,es]
    exact q
theorem ok_is_part (T:Bl mg) (d:Df K mg "is_part" s_is_part ["text"]  ) {tk_LETTERS:Tok} (g_LETTERS:mg "LETTERS" = some (.str "abcdefghijklmnopqrstuvwxyz" tk_LETTERS)) {tk_MOST_LETTERS:Tok} (g_MOST_LETTERS:mg "MOST_LETTERS" = some (.int 8 tk_MOST_LETTERS)):Okf P w K mg base (k + 1) "is_part" ["text"] spPart:=by
  refine Okf.of d sc_is_part (fun vs H Q E h => ?_) (fun f cdv A outer s H vs Q E hr h => ?_)
  . obtain ⟨z,rfl,_⟩:=h
    rfl
  . obtain ⟨z,rfl,hz,q⟩:=h
    refine ⟨_,(@pss_one _ _ _ (@ps_ret _ _ _ _ (@pe_and _ _ _ _ _ _ _ (@pe_chain _ _ _ _ _ _ _ _ _ _ _ _ op_le op_le (@pe_int _ _ _ _) (@pe_callB _ _ _ _ _ _ _ _ _ c_len rfl T.z_len bt_len (@pa_cons _ _ _ _ _ (pv 0) (@pa_nil _) (by rfl)) (by decide) (by decide) (by rfl) (by rfl)) (@pe_glob _ _ (v:=(.int 8)) _ _ rfl g_MOST_LETTERS ⟨_,rfl⟩ (by decide)) (by with_unfolding_all rfl)) (@pe_one _ _ _ _ _ (@pe_callB _ _ _ _ _ _ _ _ _ (c_allB rfl) rfl T.z_all bt_all (@pa_cons _ _ _ _ _ (@pe_comp _ _ _ _ _ _ _ _ _ _ _ _ _ _ (@comp_ck _ _ (sc:=defScope s_is_part) (N:=["text"]) (tn:=["sign"]) (names:=[]) (is:=[]) rfl rfl (by decide +kernel) (by decide +kernel) rfl (by decide +kernel) rfl (by decide +kernel) (by decide +kernel) (by decide +kernel)) rfl (@pi_signs _ _ _ _ (pv 0)) (fun _ _ _ _ => (@pg_name _ _ (i:=0) _ (show (["sign"]:List Str).Nodup by decide +kernel) rfl (Or.inl rfl) (Or.inr rfl))) (fun _ _ _ _ => (@pe_cmpR _ _ _ _ _ _ _ _ op_inTx (pv 0) (@pe_glob _ _ (v:=(.str "abcdefghijklmnopqrstuvwxyz")) _ _ rfl g_LETTERS ⟨_,rfl⟩ (by decide)) (by with_unfolding_all rfl))) (fun _ _ _ _ => (@pts_none _)) (by intro _; rfl)) (@pa_nil _) (by rfl)) (by decide) (by decide) (by rfl) (by rfl)))))),?_⟩
    try dsimp only [cxK_nox,cxK_of]
    walk_at "go"
    have hzs:z.length <= sizeLine:=by rw [sizeLine_eq]; omega
    refine r_lens hzs ?_
    walk_at "go"
    refine i_d (fun c1 => ?_) (fun c1 => ?_)
    . walk_at "go"
      refine i_d (fun c2 => ?_) (fun c2 => ?_)
      . walk_at "go"
        refine ⟨z,rfl,?_⟩
        refine r_compS hz (fun acc i ys G => Kp acc H G /\ ys = (z.cps.toList.take i).map fun c => V.bl (decide (97 <= c) && decide (c < 123))) (fun acc h0 => ⟨Kp.new h0,rfl⟩) ?_ ?_
        . intro acc i ys G c h0 hx hyl hG ⟨kp,e⟩
          walk_at "go"
          have hx':z.cps.toList[i]? = some c:=by simpa using hx
          have hi:i < z.cps.toList.length:=(List.getElem?_eq_some_iff.mp hx').1
          refine c_next (by rw [len_cps]; exact hi) hyl hG ⟨Kp.trans kp Kp.upd,?_⟩
          have e2:z.cps.toList[i] = c:=by
            rw [List.getElem?_eq_getElem hi] at hx'
            exact Option.some.inj hx'
          rw [List.take_succ_eq_append_getElem hi,List.map_append,← e,e2,letters_mem]
          rfl
        . intro acc ys G h0 hG hl ⟨kp,e⟩
          walk_at "go"
          rw [len_cps,List.take_length] at e
          subst e
          have e3:(z.cps.toList.map fun c => V.bl (decide (97 <= c) && decide (c < 123))) = (z.cps.toList.map fun c => (decide (97 <= c) && decide (c < 123))).map V.bl:=by rw [List.map_map]; rfl
          rw [e3] at hG
          refine r_allB hG ?_
          walk_at "go"
          have e4:(z.cps.toList.map fun c => (decide (97 <= c) && decide (c < 123))).all id = partB z:=by
            unfold partB
            rw [decide_eq_true (show 1 <= z.length by omega),decide_eq_true (show z.length <= 8 by omega),Bool.and_true,Bool.true_and,List.all_map]
            rfl
          rw [e4]
          exact q _ (Same.kpn h0 (Same.refl _) kp)
      . walk_at "go"
        have e:partB z = false:=by
          unfold partB
          rw [decide_eq_false (show ¬ z.length <= 8 by omega),Bool.and_false,Bool.false_and]
        rw [e] at q
        exact q _ (Same.refl _)
    . walk_at "go"
      have e:partB z = false:=by
        unfold partB
        rw [decide_eq_false (show ¬ 1 <= z.length by omega),Bool.false_and,Bool.false_and]
      rw [e] at q
      exact q _ (Same.refl _)
theorem ok_is_post (T:Bl mg) (d:Df K mg "is_post" s_is_post ["thing"]  ) {tk_MOST_PARTS:Tok} (g_MOST_PARTS:mg "MOST_PARTS" = some (.int 4 tk_MOST_PARTS)) (o_is_part:Okf P w K mg base k "is_part" ["text"] spPart):Okf P w K mg base (k + 1) "is_post" ["thing"] (spPost K):=by
  refine Okf.of d sc_is_post (fun vs H Q E h => ?_) (fun f cdv A outer s H vs Q E hr h => ?_)
  . obtain ⟨x,b,rfl,_⟩:=h
    rfl
  . obtain ⟨x,b,rfl,h,q⟩:=h
    refine ⟨_,(@pss_cons _ _ _ _ _ (@ps_if _ _ _ _ _ _ _ _ (@pt_not _ _ _ _ (@pt_val _ _ _ (@pe_callB _ _ _ _ _ _ _ _ _ (call_isTy (T:="str")) rfl T.z_isinstance bt_isinstance (@pa_cons _ _ _ _ _ (pv 0) (@pa_cons _ _ _ _ _ (@pe_bltn _ _ (v:=.ty "str") _ _ rfl T.z_str bt_str rfl (by decide) (by decide)) (@pa_nil _) (by rfl)) (by rfl)) (by decide) (by decide) (by rfl) (by rfl)) (by intro _; rfl))) (@pss_one _ _ _ (@ps_ret _ _ _ _ (@pe_bl _ _ _ _))) (@pss_nil _)) (@pss_cons _ _ _ _ _ (@ps_set _ _ (i:=1) _ _ _ _ sc_is_post.nd rfl (by first | exact Or.inl rfl | exact Or.inr rfl) (@pe_bm _ _ _ _ _ _ _ _ _ _ _ _ PySem.F.plainAttrs_str PySem.F.slot_str_split PySem.F.type_str_split mt_split (pv 0) (@pa_cons _ _ _ _ _ (@pe_str _ _ _ _) (@pa_nil _) (by rfl)) (by rfl) (by rfl) (by rfl) (by rfl) (by rfl)) (by rfl) (by first | exact .inl rfl | exact .inr rfl | assumption)) (@pss_one _ _ _ (@ps_ret _ _ _ _ (@pe_and _ _ _ _ _ _ _ (@pe_cmpR _ _ _ _ _ _ _ _ op_le (@pe_callB _ _ _ _ _ _ _ _ _ c_len rfl T.z_len bt_len (@pa_cons _ _ _ _ _ (pv 1) (@pa_nil _) (by rfl)) (by decide) (by decide) (by rfl) (by rfl)) (@pe_glob _ _ (v:=(.int 4)) _ _ rfl g_MOST_PARTS ⟨_,rfl⟩ (by decide)) (nomark _)) (@pe_one _ _ _ _ _ (@pe_callB _ _ _ _ _ _ _ _ _ (c_allB rfl) rfl T.z_all bt_all (@pa_cons _ _ _ _ _ (@pe_comp _ _ _ _ _ _ _ _ _ _ _ _ _ _ (@comp_ck _ _ (sc:=defScope s_is_post) (N:=["thing","parts"]) (tn:=["part"]) (names:=[]) (is:=[]) rfl rfl (by decide +kernel) (by decide +kernel) rfl (by decide +kernel) rfl (by decide +kernel) (by decide +kernel) (by decide +kernel)) rfl (@pi_list _ _ _ _ (pv 1)) (fun _ _ _ _ => (@pg_name _ _ (i:=0) _ (show (["part"]:List Str).Nodup by decide +kernel) rfl (Or.inl rfl) (Or.inr rfl))) (fun _ _ _ _ => (@pe_callO _ _ _ _ _ _ _ _ _ _ o_is_part hr rfl (@pa_cons _ _ _ _ _ (pv 0) (@pa_nil _) (by rfl)) (by decide) (by rfl) (by rfl))) (fun _ _ _ _ => (@pts_none _)) (by intro _; rfl)) (@pa_nil _) (by rfl)) (by decide) (by decide) (by rfl) (by rfl)))))))),?_⟩
    try dsimp only [cxK_nox,cxK_of]
    rcases h with ⟨z,rfl,hz,rfl⟩ | ⟨⟨t,ty,e1⟩,rfl⟩
    . walk_at "go"
      refine r_isTy (.str z) kit_str_str ?_
      walk_at "go"
      have ep:(".":Str) = ⟨#[46]⟩:=by decide +kernel
      rw [ep]
      refine r_split (z:=z) (y:=⟨#[46]⟩) (by decide) (by omega) fun l hl => ?_
      have hps:=post_split z
      have hsh:∀ p ∈ Txt.split z ⟨#[46]⟩,p.length <= 1000:=fun p hp => Nat.le_trans (sp_short hp) hz
      have hsl:=sp_few z ⟨#[46]⟩
      generalize Txt.split z ⟨#[46]⟩ = ps at hps hsh hsl ⊢
      walk_at "go"
      rw [List.length_map]
      refine i_d (fun c => ?_) (fun c => ?_)
      . walk_at "go"
        refine r_listK (SqL.of upd_same) ?_
        refine r_compL (xs:=ps.map V.str) (by rw [List.length_map]; omega) (fun acc i ys G => Kp acc (upd H l (.lst (ps.map V.str))) G /\ ys = (ps.take i).map fun p => V.bl (partB p)) (fun acc h0 => ⟨Kp.new h0,rfl⟩) ?_ ?_ ?_
        . intro acc i ys G h0 _ ⟨kp,_⟩
          exact SqL.of (kp _ _ (ne_of_none upd_same h0) upd_same)
        . intro acc i ys G x h0 hx hyl hG ⟨kp,e⟩
          rw [List.getElem?_map] at hx
          cases hy:ps[i]? with
          | none => rw [hy] at hx; cases hx
          | some y =>
            rw [hy] at hx
            cases (Option.some.inj hx:V.str y = x)
            walk_at "go"
            refine ⟨y,rfl,hsh y (List.mem_of_getElem? hy),fun G1 s1 => ?_⟩
            have hi:i < ps.length:=(List.getElem?_eq_some_iff.mp hy).1
            refine c_next (by rw [List.length_map]; exact hi) hyl (s1 _ _ hG) ⟨Kp.trans (Kp.trans kp s1.kp) Kp.upd,?_⟩
            have e2:ps[i] = y:=by
              rw [List.getElem?_eq_getElem hi] at hy
              exact Option.some.inj hy
            rw [List.take_succ_eq_append_getElem hi,List.map_append,← e,e2]
            rfl
        . intro acc ys G h0 hG hyl ⟨kp,e⟩
          rw [List.length_map,List.take_length] at e
          subst e
          walk_at "go"
          have e3:(ps.map fun p => V.bl (partB p)) = (ps.map partB).map V.bl:=by rw [List.map_map]; rfl
          rw [e3] at hG
          refine r_allB hG ?_
          walk_at "go"
          have e4:(ps.map partB).all id = postB z:=by
            rw [hps,decide_eq_true (show ps.length <= 4 by omega),Bool.true_and,List.all_map]
            rfl
          rw [e4]
          exact q _ ((Same.new hl).trans (Same.kpn h0 (Same.refl _) kp))
      . walk_at "go"
        rw [decide_eq_false (show ¬ ps.length <= 4 by omega),Bool.false_and] at hps
        rw [hps] at q
        exact q _ (Same.new hl)
    . walk_at "go"
      refine r_isTy ty e1 ?_
      walk_at "go"
      exact q _ (Same.refl _)
theorem ok_refuse_unless (T:Bl mg) (d:Df K mg "refuse_unless" s_refuse_unless ["holds","words"]  ):Okf P w K mg base (k + 1) "refuse_unless" ["holds","words"] spRefU:=by
  refine Okf.of d sc_refuse_unless (fun vs H Q E h => ?_) (fun f cdv A outer s H vs Q E hr h => ?_)
  . obtain ⟨v,rfl,_⟩:=h
    rfl
  . obtain ⟨v,rfl,q⟩:=h
    refine ⟨_,(@pss_one _ _ _ (@ps_if _ _ _ _ _ _ _ _ (@pt_not _ _ _ _ (@pt_val _ _ _ (pv 0) (by intro _; rfl))) (@pss_cons _ _ _ _ _ (@ps_never _ _) (@pss_one _ _ _ (@ps_never _ _))) (@pss_nil _))),?_⟩
    try dsimp only [cxK_nox,cxK_of]
    walk_at "go"
    exact q
set_option maxHeartbeats 0 in
theorem ok_posts_in (T:Bl mg) (d:Df K mg "posts_in" s_posts_in ["words","told"]  ) (o_is_post:Okf P w K mg base k "is_post" ["thing"] (spPost K)) (o_refuse_unless:Okf P w K mg base k "refuse_unless" ["holds","words"] spRefU):Okf P w K mg base (k + 1) "posts_in" ["words","told"] (spPostsIn K):=by
  refine Okf.of d sc_posts_in (fun vs H Q E h => ?_) (fun f cdv A outer s H vs Q E hr h => ?_)
  . obtain ⟨v,l,ps,rfl,_⟩:=h
    rfl
  . obtain ⟨v,l,ps,rfl,hl,hps,hn,q⟩:=h
    refine ⟨_,(@pss_cons _ _ _ _ _ (@ps_expr _ _ _ _ (@pe_callO _ _ _ _ _ _ _ _ _ _ o_refuse_unless hr rfl (@pa_cons _ _ _ _ _ (@pe_callB _ _ _ _ _ _ _ _ _ (c_allB rfl) rfl T.z_all bt_all (@pa_cons _ _ _ _ _ (@pe_comp _ _ _ _ _ _ _ _ _ _ _ _ _ _ (@comp_ck _ _ (sc:=defScope s_posts_in) (N:=["words","told"]) (tn:=["word"]) (names:=[]) (is:=[]) rfl rfl (by decide +kernel) (by decide +kernel) rfl (by decide +kernel) rfl (by decide +kernel) (by decide +kernel) (by decide +kernel)) rfl (@pi_list _ _ _ _ (pv 1)) (fun _ _ _ _ => (@pg_name _ _ (i:=0) _ (show (["word"]:List Str).Nodup by decide +kernel) rfl (Or.inl rfl) (Or.inr rfl))) (fun _ _ _ _ => (@pe_callO _ _ _ _ _ _ _ _ _ _ o_is_post hr rfl (@pa_cons _ _ _ _ _ (pv 0) (@pa_nil _) (by rfl)) (by decide) (by rfl) (by rfl))) (fun _ _ _ _ => (@pts_none _)) (by intro _; rfl)) (@pa_nil _) (by rfl)) (by decide) (by decide) (by rfl) (by rfl)) (@pa_cons _ _ _ _ _ (pv 0) (@pa_nil _) (by rfl)) (by rfl)) (by decide) (by rfl) (by rfl)) (by rfl)) (@pss_one _ _ _ (@ps_ret _ _ _ _ (@pe_callTy _ _ _ _ _ _ _ _ _ call_tuple_of rfl T.z_tuple bt_tuple (@pa_cons _ _ _ _ _ (pv 1) (@pa_nil _) (by rfl)) (by decide) (by decide) (by rfl) (by rfl))))),?_⟩
    try dsimp only [cxK_nox,cxK_of]
    have hml:(ps.map V.str).length = ps.length:=List.length_map _
    walk_at "go"
    refine r_listK (SqL.of hl) ?_
    refine r_compL (xs:=ps.map V.str) (by omega) (fun acc i ys G => Kp acc H G /\ ys = (List.replicate i true).map V.bl) (fun acc h0 => ⟨Kp.new h0,rfl⟩) ?_ ?_ ?_
    . intro acc i ys G h0 _ ⟨kp,_⟩
      exact SqL.of (kp _ _ (ne_of_none hl h0) hl)
    . intro acc i ys G x h0 hx hyl hG ⟨kp,e⟩
      rw [List.getElem?_map] at hx
      cases hy:ps[i]? with
      | none => rw [hy] at hx; cases hx
      | some y =>
        rw [hy] at hx
        cases (Option.some.inj hx:V.str y = x)
        walk_at "go"
        refine ⟨_,true,rfl,(hps y (List.mem_of_getElem? hy)).q,fun G1 t1 => ?_⟩
        have hi:i < ps.length:=(List.getElem?_eq_some_iff.mp hy).1
        refine c_next (by omega) hyl (t1 _ _ hG) ⟨Kp.trans (Kp.trans kp t1.kp) Kp.upd,?_⟩
        rw [e,List.replicate_succ',List.map_append]
        rfl
    intro acc ys G h0 hG hyl ⟨kp,e⟩
    subst e
    have sG:Same H G:=fun b o h => kp _ _ (ne_of_none h h0) h
    have gG:=sG _ _ hl
    walk_at "go"
    refine r_allB hG ?_
    rw [show (List.replicate (ps.map V.str).length true).all id = true by rw [List.all_eq_true]; intro b hb; rw [List.eq_of_mem_replicate hb]; rfl]
    walk_at "go"
    refine ⟨v,rfl,?_⟩
    walk_at "go"
    refine ⟨l,_,rfl,.inl ⟨SqL.of gG,fun p hp => ?_⟩⟩
    walk_at "go"
    exact q p _ (sG.trans (Same.new hp)) upd_same
theorem ok_time_in (T:Bl mg) (d:Df K mg "time_in" s_time_in ["words","word"]  ) (o_refuse_unless:Okf P w K mg base k "refuse_unless" ["holds","words"] spRefU) (o_read_time:Okf P w K mg base k "read_time" ["word"] spReadT):Okf P w K mg base (k + 1) "time_in" ["words","word"] spTimeIn:=by
  refine Okf.of d sc_time_in (fun vs H Q E h => ?_) (fun f cdv A outer s H vs Q E hr h => ?_)
  . obtain ⟨v,t,rfl,_⟩:=h
    rfl
  . obtain ⟨v,t,rfl,ht,q⟩:=h
    refine ⟨_,(@pss_cons _ _ _ _ _ (@ps_set _ _ (i:=2) _ _ _ _ sc_time_in.nd rfl (by first | exact Or.inl rfl | exact Or.inr rfl) (@pe_callO _ _ _ _ _ _ _ _ _ _ o_read_time hr rfl (@pa_cons _ _ _ _ _ (pv 1) (@pa_nil _) (by rfl)) (by decide) (by rfl) (by rfl)) (by rfl) (by first | exact .inl rfl | exact .inr rfl | assumption)) (@pss_cons _ _ _ _ _ (@ps_expr _ _ _ _ (@pe_callO _ _ _ _ _ _ _ _ _ _ o_refuse_unless hr rfl (@pa_cons _ _ _ _ _ (@pe_cmpR _ _ _ _ _ _ _ _ op_notN2 (pv 2) (@pe_non _ _ _) (nomark _)) (@pa_cons _ _ _ _ _ (pv 0) (@pa_nil _) (by rfl)) (by rfl)) (by decide) (by rfl) (by rfl)) (by rfl)) (@pss_one _ _ _ (@ps_ret _ _ _ _ (pv 2))))),?_⟩
    try dsimp only [cxK_nox,cxK_of]
    walk_at "go"
    refine ⟨t,rfl,ht,fun u H1 s1 fu => ?_⟩
    obtain ⟨p,rfl,hp⟩:=id fu
    walk_at "go"
    refine ⟨v,rfl,?_⟩
    walk_at "go"
    exact q _ _ s1 fu
set_option maxHeartbeats 0 in
theorem ok_run_in (T:Bl mg) (d:Df K mg "run_in" s_run_in ["words"]  ) (o_time_in:Okf P w K mg base k "time_in" ["words","word"] spTimeIn) (o_posts_in:Okf P w K mg base k "posts_in" ["words","told"] (spPostsIn K)) (o_refuse_unless:Okf P w K mg base k "refuse_unless" ["holds","words"] spRefU):Okf P w K mg base (k + 1) "run_in" ["words"] (spRunIn K):=by
  refine Okf.of d sc_run_in (fun vs H Q E h => ?_) (fun f cdv A outer s H vs Q E hr h => ?_)
  . obtain ⟨l,a,b,t,rfl,_⟩:=h
    rfl
  . obtain ⟨l,a,b,t,rfl,hl,ha,hb,ht,q⟩:=h
    refine ⟨_,(@pss_cons _ _ _ _ _ (@ps_expr _ _ _ _ (@pe_callO _ _ _ _ _ _ _ _ _ _ o_refuse_unless hr rfl (@pa_cons _ _ _ _ _ (@pe_cmpR _ _ _ _ _ _ _ _ (op_eqA hr.units) (@pe_callB _ _ _ _ _ _ _ _ _ c_len rfl T.z_len bt_len (@pa_cons _ _ _ _ _ (pv 0) (@pa_nil _) (by rfl)) (by decide) (by decide) (by rfl) (by rfl)) (@pe_int _ _ _ _) (nomark _)) (@pa_cons _ _ _ _ _ (pv 0) (@pa_nil _) (by rfl)) (by rfl)) (by decide) (by rfl) (by rfl)) (by rfl)) (@pss_cons _ _ _ _ _ (@ps_set _ _ (i:=1) _ _ _ _ sc_run_in.nd rfl (by first | exact Or.inl rfl | exact Or.inr rfl) (@pe_callO _ _ _ _ _ _ _ _ _ _ o_posts_in hr rfl (@pa_cons _ _ _ _ _ (pv 0) (@pa_cons _ _ _ _ _ (@pe_slice _ _ _ _ _ _ _ _ _ _ sl_any (pv 0) (@po_some _ _ _ (@pe_int _ _ _ _)) (@po_some _ _ _ (@pe_int _ _ _ _))) (@pa_nil _) (by rfl)) (by rfl)) (by decide) (by rfl) (by rfl)) (by rfl) (by first | exact .inl rfl | exact .inr rfl | assumption)) (@pss_one _ _ _ (@ps_ret _ _ _ _ (@pe_tup _ _ _ _ _ (@pa_cons _ _ _ _ _ (@pe_str _ _ _ _) (@pa_cons _ _ _ _ _ (@pe_ix _ _ _ _ _ _ _ ix_LT (pv 1) (@pe_int _ _ _ _) (fun _ _ => rfl)) (@pa_cons _ _ _ _ _ (@pe_ix _ _ _ _ _ _ _ ix_LT (pv 1) (@pe_int _ _ _ _) (fun _ _ => rfl)) (@pa_cons _ _ _ _ _ (@pe_callO _ _ _ _ _ _ _ _ _ _ o_time_in hr rfl (@pa_cons _ _ _ _ _ (pv 0) (@pa_cons _ _ _ _ _ (@pe_ix _ _ _ _ _ _ _ ix_LT (pv 0) (@pe_int _ _ _ _) (fun _ _ => rfl)) (@pa_nil _) (by rfl)) (by rfl)) (by decide) (by rfl) (by rfl)) (@pa_nil _) (by rfl)) (by rfl)) (by rfl)) (by rfl))))))),?_⟩
    try dsimp only [cxK_nox,cxK_of]
    replace hl:H l = some (.lst [.str "run",.str a,.str b,.str (tmS t)]):=hl
    have hl4:([V.str "run",.str a,.str b,.str (tmS t)]:List V).length = 4:=rfl
    walk_at "go"
    refine ⟨_,rfl,?_⟩
    walk_at "go"
    refine s_lst hl fun l1 hl1 => ?_
    have s1:=Same.new (o:=.lst (cutV [.str "run",.str a,.str b,.str (tmS t)] (some 1) (some 3))) hl1
    have g1:=upd_same (H:=H) (a:=l1) (o:=.lst (cutV [.str "run",.str a,.str b,.str (tmS t)] (some 1) (some 3)))
    generalize L2.upd H l1 (.lst (cutV [.str "run",.str a,.str b,.str (tmS t)] (some 1) (some 3))) = H1 at s1 g1 ⊢
    replace g1:H1 l1 = some (.lst ([a,b].map V.str)):=g1
    walk_at "go"
    refine ⟨_,l1,[a,b],rfl,g1,fun s hs => ?_,(by show 2 <= 100; decide),fun p H2 s2 hp => ?_⟩
    . rcases List.mem_cons.mp hs with rfl | hs
      . exact ha
      . rw [List.mem_singleton.mp hs]; exact hb
    replace hp:H2 p = some (.tup [.str a,.str b]):=hp
    have hl2:=s2 _ _ (s1 _ _ hl)
    walk_at "go"
    refine ⟨_,t,rfl,ht,fun v H3 s3 fv => ?_⟩
    walk_at "go"
    refine r_tupK fun p9 hp9 => ?_
    walk_at "go"
    exact q _ _ (((s1.trans s2).trans s3).trans (Same.new hp9)) ⟨p9,v,rfl,upd_same,fv.tk (TK.new hp9)⟩
set_option maxHeartbeats 0 in
theorem ok_posts_row_in (T:Bl mg) (d:Df K mg "posts_row_in" s_posts_row_in ["words"]  ) {ad_FEWEST_POSTS:Addr} (gd_FEWEST_POSTS:mg "FEWEST_POSTS" = some (.ref ad_FEWEST_POSTS)) (kd_FEWEST_POSTS:KDic P w K ad_FEWEST_POSTS [(Sum.inr "row",.int 2),(Sum.inr "star",.int 2),(Sum.inr "ring",.int 3)]) (o_posts_in:Okf P w K mg base k "posts_in" ["words","told"] (spPostsIn K)) (o_time_in:Okf P w K mg base k "time_in" ["words","word"] spTimeIn) (o_refuse_unless:Okf P w K mg base k "refuse_unless" ["holds","words"] spRefU):Okf P w K mg base (k + 1) "posts_row_in" ["words"] (spPostsRow K):=by
  refine Okf.of d sc_posts_row_in (fun vs H Q E h => ?_) (fun f cdv A outer s H vs Q E hr h => ?_)
  . obtain ⟨l,k,t,ps,rfl,_⟩:=h
    rfl
  . obtain ⟨l,k,t,ps,rfl,hl,ok,q⟩:=h
    refine ⟨_,(@pss_cons _ _ _ _ _ (@ps_expr _ _ _ _ (@pe_callO _ _ _ _ _ _ _ _ _ _ o_refuse_unless hr rfl (@pa_cons _ _ _ _ _ (@pe_cmpR _ _ _ _ _ _ _ _ op_ge (@pe_callB _ _ _ _ _ _ _ _ _ c_len rfl T.z_len bt_len (@pa_cons _ _ _ _ _ (pv 0) (@pa_nil _) (by rfl)) (by decide) (by decide) (by rfl) (by rfl)) (@pe_op _ _ _ _ _ _ _ _ op_addA (@pe_int _ _ _ _) (@pe_kget _ _ _ _ _ _ _ _ rfl gd_FEWEST_POSTS kd_FEWEST_POSTS (@pe_ix _ _ _ _ _ _ _ ix_LT (pv 0) (@pe_int _ _ _ _) (fun _ _ => rfl)) (fun _ _ => rfl) (by decide))) (nomark _)) (@pa_cons _ _ _ _ _ (pv 0) (@pa_nil _) (by rfl)) (by rfl)) (by decide) (by rfl) (by rfl)) (by rfl)) (@pss_one _ _ _ (@ps_ret _ _ _ _ (@pe_tup _ _ _ _ _ (@pa_cons _ _ _ _ _ (@pe_ix _ _ _ _ _ _ _ ix_LT (pv 0) (@pe_int _ _ _ _) (fun _ _ => rfl)) (@pa_cons _ _ _ _ _ (@pe_callO _ _ _ _ _ _ _ _ _ _ o_time_in hr rfl (@pa_cons _ _ _ _ _ (pv 0) (@pa_cons _ _ _ _ _ (@pe_ix _ _ _ _ _ _ _ ix_LT (pv 0) (@pe_int _ _ _ _) (fun _ _ => rfl)) (@pa_nil _) (by rfl)) (by rfl)) (by decide) (by rfl) (by rfl)) (@pa_cons _ _ _ _ _ (@pe_callO _ _ _ _ _ _ _ _ _ _ o_posts_in hr rfl (@pa_cons _ _ _ _ _ (pv 0) (@pa_cons _ _ _ _ _ (@pe_slice _ _ _ _ _ _ _ _ _ _ sl_any (pv 0) (@po_some _ _ _ (@pe_int _ _ _ _)) (@po_none _)) (@pa_nil _) (by rfl)) (by rfl)) (by decide) (by rfl) (by rfl)) (@pa_nil _) (by rfl)) (by rfl)) (by rfl)))))),?_⟩
    try dsimp only [cxK_nox,cxK_of]
    obtain ⟨h1,h2,h3,h4,h5⟩:=ok
    replace hl:H l = some (.lst (.str k.nm :: .str (tmS t) :: ps.map V.str)):=hl
    have hl4:(V.str k.nm :: .str (tmS t) :: ps.map V.str:List V).length = ps.length + 2:=by rw [List.length_cons,List.length_cons,List.length_map]
    have a0:atI (V.str k.nm :: .str (tmS t) :: ps.map V.str) 0 = some (.str k.nm):=show atI _ ((0:Nat):Int) = _ from atI_nat rfl
    have a1:atI (V.str k.nm :: .str (tmS t) :: ps.map V.str) 1 = some (.str (tmS t)):=show atI _ ((1:Nat):Int) = _ from atI_nat rfl
    walk_at "go"
    refine r_ixl hl a0 ?_
    refine r_kgS (fp_path k) ?_
    walk_at "go"
    have hk:fpN k <= (ps.length:Int):=by
      cases k with
      | ring => have:=h5 rfl; show (3:Int) <= _; omega
      | row => show (2:Int) <= _; omega
      | star => show (2:Int) <= _; omega
    rw [show decide (2 + fpN k <= ((V.str k.nm :: .str (tmS t) :: ps.map V.str:List V).length:Int)) = true from decide_eq_true (by omega)]
    refine ⟨_,rfl,?_⟩
    walk_at "go"
    refine r_ixl hl a0 ?_
    walk_at "go"
    refine r_ixl hl a1 ?_
    walk_at "go"
    refine ⟨_,t,rfl,h2,fun v H1 s1 fv => ?_⟩
    have hl1:=s1 _ _ hl
    walk_at "go"
    refine s_lst hl1 fun l2 hl2 => ?_
    rw [show cutV (V.str k.nm :: .str (tmS t) :: ps.map V.str) (some 2) none = ps.map V.str from cut_from (xs:=V.str k.nm :: .str (tmS t) :: ps.map V.str) 2 (by omega)]
    have s2:=Same.new (o:=.lst (ps.map V.str)) hl2
    have g2:=upd_same (H:=H1) (a:=l2) (o:=.lst (ps.map V.str))
    generalize L2.upd H1 l2 (.lst (ps.map V.str)) = H2 at s2 g2 ⊢
    walk_at "go"
    refine ⟨_,l2,ps,rfl,g2,h1,by omega,fun p H3 s3 hp => ?_⟩
    walk_at "go"
    refine r_tupK fun p9 hp9 => ?_
    walk_at "go"
    have s9:=Same.new (o:=.tup [.str k.nm,v,.ref p]) hp9
    exact q _ _ (((s1.trans s2).trans s3).trans s9) ⟨p9,v,p,rfl,upd_same,((fv.tk s2.tk).tk s3.tk).tk s9.tk,s9 _ _ hp⟩
set_option maxHeartbeats 0 in
theorem ok_put_in (T:Bl mg) (d:Df K mg "put_in" s_put_in ["words","counts"]  ) (o_posts_in:Okf P w K mg base k "posts_in" ["words","told"] (spPostsIn K)) (o_refuse_unless:Okf P w K mg base k "refuse_unless" ["holds","words"] spRefU) (o_is_part:Okf P w K mg base k "is_part" ["text"] spPart):Okf P w K mg base (k + 1) "put_in" ["words","counts"] (spPutIn K):=by
  refine Okf.of d sc_put_in (fun vs H Q E h => ?_) (fun f cdv A outer s H vs Q E hr h => ?_)
  . obtain ⟨l,d,kd,nm,cl,as,rfl,_⟩:=h
    rfl
  . obtain ⟨l,d,kd,nm,cl,as,rfl,hl,hd,hv,hcl,has,hn,q⟩:=h
    refine ⟨_,(@pss_cons _ _ _ _ _ (@ps_expr _ _ _ _ (@pe_callO _ _ _ _ _ _ _ _ _ _ o_refuse_unless hr rfl (@pa_cons _ _ _ _ _ (@pe_and _ _ _ _ _ _ _ (@pe_cmpR _ _ _ _ _ _ _ _ op_ge (@pe_callB _ _ _ _ _ _ _ _ _ c_len rfl T.z_len bt_len (@pa_cons _ _ _ _ _ (pv 0) (@pa_nil _) (by rfl)) (by decide) (by decide) (by rfl) (by rfl)) (@pe_int _ _ _ _) (nomark _)) (@pe_and _ _ _ _ _ _ _ (@pe_cmp _ _ _ _ _ _ (@pc_din _ _ _ _ _ hr.u1 (@pe_ix _ _ _ _ _ _ _ ix_LT (pv 0) (@pe_int _ _ _ _) (fun _ _ => rfl)) (pv 1)) (by first | exact nobehind _ (by decide) (by decide) | rfl)) (@pe_one _ _ _ _ _ (@pe_callO _ _ _ _ _ _ _ _ _ _ o_is_part hr rfl (@pa_cons _ _ _ _ _ (@pe_ix _ _ _ _ _ _ _ ix_LT (pv 0) (@pe_int _ _ _ _) (fun _ _ => rfl)) (@pa_nil _) (by rfl)) (by decide) (by rfl) (by rfl))))) (@pa_cons _ _ _ _ _ (pv 0) (@pa_nil _) (by rfl)) (by rfl)) (by decide) (by rfl) (by rfl)) (by rfl)) (@pss_cons _ _ _ _ _ (@ps_expr _ _ _ _ (@pe_callO _ _ _ _ _ _ _ _ _ _ o_refuse_unless hr rfl (@pa_cons _ _ _ _ _ (@pe_cmpR _ _ _ _ _ _ _ _ (op_eqA hr.units) (@pe_op _ _ _ _ _ _ _ _ op_sub (@pe_callB _ _ _ _ _ _ _ _ _ c_len rfl T.z_len bt_len (@pa_cons _ _ _ _ _ (pv 0) (@pa_nil _) (by rfl)) (by decide) (by decide) (by rfl) (by rfl)) (@pe_int _ _ _ _)) (@pe_dget _ _ _ _ _ _ hr.u1 (pv 1) (@pe_ix _ _ _ _ _ _ _ ix_LT (pv 0) (@pe_int _ _ _ _) (fun _ _ => rfl)) (fun _ _ => rfl)) (nomark _)) (@pa_cons _ _ _ _ _ (pv 0) (@pa_nil _) (by rfl)) (by rfl)) (by decide) (by rfl) (by rfl)) (by rfl)) (@pss_one _ _ _ (@ps_ret _ _ _ _ (@pe_tup _ _ _ _ _ (@pa_cons _ _ _ _ _ (@pe_str _ _ _ _) (@pa_cons _ _ _ _ _ (@pe_ix _ _ _ _ _ _ _ ix_LT (pv 0) (@pe_int _ _ _ _) (fun _ _ => rfl)) (@pa_cons _ _ _ _ _ (@pe_ix _ _ _ _ _ _ _ ix_LT (pv 0) (@pe_int _ _ _ _) (fun _ _ => rfl)) (@pa_cons _ _ _ _ _ (@pe_callO _ _ _ _ _ _ _ _ _ _ o_posts_in hr rfl (@pa_cons _ _ _ _ _ (pv 0) (@pa_cons _ _ _ _ _ (@pe_slice _ _ _ _ _ _ _ _ _ _ sl_any (pv 0) (@po_some _ _ _ (@pe_int _ _ _ _)) (@po_none _)) (@pa_nil _) (by rfl)) (by rfl)) (by decide) (by rfl) (by rfl)) (@pa_nil _) (by rfl)) (by rfl)) (by rfl)) (by rfl))))))),?_⟩
    try dsimp only [cxK_nox,cxK_of]
    replace hl:H l = some (.lst (.str "put" :: .str nm :: .str cl :: as.map V.str)):=hl
    have hl4:(V.str "put" :: .str nm :: .str cl :: as.map V.str:List V).length = as.length + 3:=by rw [List.length_cons,List.length_cons,List.length_cons,List.length_map]
    have cl8:=(part_facts hcl).2.1
    have a1:atI (V.str "put" :: .str nm :: .str cl :: as.map V.str) 1 = some (.str nm):=show atI _ ((1:Nat):Int) = _ from atI_nat rfl
    have a2:atI (V.str "put" :: .str nm :: .str cl :: as.map V.str) 2 = some (.str cl):=show atI _ ((2:Nat):Int) = _ from atI_nat rfl
    walk_at "go"
    refine r_ixl hl a1 ?_
    walk_at "go"
    refine r_dIs (.inl hd) ?_
    rw [hv]
    walk_at "go"
    refine r_ixl hl a2 ?_
    walk_at "go"
    refine ⟨cl,rfl,by omega,fun H1 s1 => ?_⟩
    rw [hcl]
    walk_at "go"
    refine ⟨_,rfl,?_⟩
    have hl1:=s1 _ _ hl
    walk_at "go"
    refine r_ixl hl1 a1 ?_
    walk_at "go"
    refine r_dGs (.inl (s1 _ _ hd)) hv ?_
    walk_at "go"
    rw [show decide (((V.str "put" :: .str nm :: .str cl :: as.map V.str).length:Int) - 3 = (as.length:Int)) = true from decide_eq_true (by omega)]
    refine ⟨_,rfl,?_⟩
    walk_at "go"
    refine r_ixl hl1 a1 ?_
    walk_at "go"
    refine r_ixl hl1 a2 ?_
    walk_at "go"
    refine s_lst hl1 fun l2 hl2 => ?_
    rw [show cutV (V.str "put" :: .str nm :: .str cl :: as.map V.str) (some 3) none = as.map V.str from cut_from (xs:=V.str "put" :: .str nm :: .str cl :: as.map V.str) 3 (by omega)]
    have s2:=Same.new (o:=.lst (as.map V.str)) hl2
    have g2:=upd_same (H:=H1) (a:=l2) (o:=.lst (as.map V.str))
    generalize L2.upd H1 l2 (.lst (as.map V.str)) = H2 at s2 g2 ⊢
    walk_at "go"
    refine ⟨_,l2,as,rfl,g2,has,by omega,fun p H3 s3 hp => ?_⟩
    walk_at "go"
    refine r_tupK fun p9 hp9 => ?_
    walk_at "go"
    have s9:=Same.new (o:=.tup [.str "put",.str nm,.str cl,.ref p]) hp9
    exact q _ _ (((s1.trans s2).trans s3).trans s9) ⟨p9,p,rfl,upd_same,s9 _ _ hp⟩
set_option maxHeartbeats 0 in
theorem ok_plain_row_in (T:Bl mg) (d:Df K mg "plain_row_in" s_plain_row_in ["words","counts"]  ) {ad_FEWEST_POSTS:Addr} (gd_FEWEST_POSTS:mg "FEWEST_POSTS" = some (.ref ad_FEWEST_POSTS)) (kd_FEWEST_POSTS:KDic P w K ad_FEWEST_POSTS [(Sum.inr "row",.int 2),(Sum.inr "star",.int 2),(Sum.inr "ring",.int 3)]) (o_put_in:Okf P w K mg base k "put_in" ["words","counts"] (spPutIn K)) (o_refuse_unless:Okf P w K mg base k "refuse_unless" ["holds","words"] spRefU) (o_posts_row_in:Okf P w K mg base k "posts_row_in" ["words"] (spPostsRow K)) (o_run_in:Okf P w K mg base k "run_in" ["words"] (spRunIn K)):Okf P w K mg base (k + 1) "plain_row_in" ["words","counts"] (spPlainIn K):=by
  refine Okf.of d sc_plain_row_in (fun vs H Q E h => ?_) (fun f cdv A outer s H vs Q E hr h => ?_)
  . obtain ⟨l,d,E,r,rfl,_⟩:=h
    rfl
  . obtain ⟨l,d,E,r,rfl,hl,hd,hw,q⟩:=h
    refine ⟨_,(@pss_cons _ _ _ _ _ (@ps_if _ _ _ _ _ _ _ _ (@pt_cmpR _ _ _ _ _ _ _ _ (op_eqA hr.units) (@pe_ix _ _ _ _ _ _ _ ix_LT (pv 0) (@pe_int _ _ _ _) (fun _ _ => rfl)) (@pe_str _ _ _ _) (nomark _)) (@pss_one _ _ _ (@ps_ret _ _ _ _ (@pe_callO _ _ _ _ _ _ _ _ _ _ o_run_in hr rfl (@pa_cons _ _ _ _ _ (pv 0) (@pa_nil _) (by rfl)) (by decide) (by rfl) (by rfl)))) (@pss_nil _)) (@pss_cons _ _ _ _ _ (@ps_if _ _ _ _ _ _ _ _ (@pt_cmp _ _ _ _ _ _ (@pc_kin _ _ _ _ _ _ _ rfl gd_FEWEST_POSTS kd_FEWEST_POSTS (@pe_ix _ _ _ _ _ _ _ ix_LT (pv 0) (@pe_int _ _ _ _) (fun _ _ => rfl)) (by decide)) (by first | exact nobehind _ (by decide) (by decide) | rfl)) (@pss_one _ _ _ (@ps_ret _ _ _ _ (@pe_callO _ _ _ _ _ _ _ _ _ _ o_posts_row_in hr rfl (@pa_cons _ _ _ _ _ (pv 0) (@pa_nil _) (by rfl)) (by decide) (by rfl) (by rfl)))) (@pss_nil _)) (@pss_cons _ _ _ _ _ (@ps_expr _ _ _ _ (@pe_callO _ _ _ _ _ _ _ _ _ _ o_refuse_unless hr rfl (@pa_cons _ _ _ _ _ (@pe_cmpR _ _ _ _ _ _ _ _ (op_eqA hr.units) (@pe_ix _ _ _ _ _ _ _ ix_LT (pv 0) (@pe_int _ _ _ _) (fun _ _ => rfl)) (@pe_str _ _ _ _) (nomark _)) (@pa_cons _ _ _ _ _ (pv 0) (@pa_nil _) (by rfl)) (by rfl)) (by decide) (by rfl) (by rfl)) (by rfl)) (@pss_one _ _ _ (@ps_ret _ _ _ _ (@pe_callO _ _ _ _ _ _ _ _ _ _ o_put_in hr rfl (@pa_cons _ _ _ _ _ (pv 0) (@pa_cons _ _ _ _ _ (pv 1) (@pa_nil _) (by rfl)) (by rfl)) (by decide) (by rfl) (by rfl))))))),?_⟩
    try dsimp only [cxK_nox,cxK_of]
    cases r with
    | plain r =>
      cases r with
      | run a b t =>
        have hl':H l = some (.lst [.str "run",.str a,.str b,.str (tmS t)]):=hl
        walk_at "go"
        exact ⟨l,a,b,t,rfl,hl,hw.1,hw.2.1,hw.2.2,fun v H' s rq => q v H' s rq⟩
      | path k t ps =>
        have hl':H l = some (.lst (.str k.nm :: .str (tmS t) :: ps.map V.str)):=hl
        have a0:atI (V.str k.nm :: .str (tmS t) :: ps.map V.str) 0 = some (.str k.nm):=show atI _ ((0:Nat):Int) = _ from atI_nat rfl
        have nr:(k.nm == Str.ofString "run") = false:=by cases k <;> decide +kernel
        walk_at "go"
        refine r_ixl hl' a0 ?_
        walk_at "go"
        rw [if_neg (show ¬ (k.nm == Str.ofString "run") = true by rw [nr]; decide)]
        walk_at "go"
        refine r_ixl hl' a0 ?_
        refine r_kiS (b:=true) (by show (valV fpK _).isSome = _; rw [fp_path k]; rfl) ?_
        walk_at "go"
        exact ⟨l,k,t,ps,rfl,hl,hw,fun v H' s rq => q v H' s rq⟩
    | put nm cl as =>
      have hl':H l = some (.lst (.str "put" :: .str nm :: .str cl :: as.map V.str)):=hl
      have a0:atI (V.str "put" :: .str nm :: .str cl :: as.map V.str) 0 = some (.str "put"):=show atI _ ((0:Nat):Int) = _ from atI_nat rfl
      obtain ⟨w1,w2,w3,x,hx,rfl,wl⟩:=hw
      obtain ⟨kd,hk,_,hv,_⟩:=hd
      walk_at "go"
      refine r_ixl hl' a0 ?_
      walk_at "go"
      refine r_ixl hl' a0 ?_
      refine r_kiS (b:=false) (by show (valV fpK _).isSome = _; rw [fp_put]; rfl) ?_
      walk_at "go"
      refine r_ixl hl' a0 ?_
      walk_at "go"
      refine ⟨_,rfl,?_⟩
      walk_at "go"
      exact ⟨l,d,kd,x.1,cl,as,rfl,hl,hk,by rw [hv x hx,wl],w1,w2,w3,q⟩
set_option maxHeartbeats 0 in
theorem ok_piece_in (T:Bl mg) (d:Df K mg "piece_in" s_piece_in ["lines","counts"]  ) {tk_MOST_PARAMS:Tok} (g_MOST_PARAMS:mg "MOST_PARAMS" = some (.int 8 tk_MOST_PARAMS)) (o_plain_row_in:Okf P w K mg base k "plain_row_in" ["words","counts"] (spPlainIn K)) (o_refuse_unless:Okf P w K mg base k "refuse_unless" ["holds","words"] spRefU) (o_is_part:Okf P w K mg base k "is_part" ["text"] spPart):Okf P w K mg base (k + 1) "piece_in" ["lines","counts"] (spPieceIn K):=by
  refine Okf.of d sc_piece_in (fun vs H Q E h => ?_) (fun f cdv A outer s H vs Q E hr h => ?_)
  . obtain ⟨l,d,E,x,rfl,_⟩:=h
    rfl
  . obtain ⟨l,d,E,x,rfl,hl,hd,hw,h60,q⟩:=h
    refine ⟨_,(@pss_cons _ _ _ _ _ (@ps_set _ _ (i:=2) _ _ _ _ sc_piece_in.nd rfl (by first | exact Or.inl rfl | exact Or.inr rfl) (@pe_ix _ _ _ _ _ _ _ ix_LT (pv 0) (@pe_int _ _ _ _) (fun _ _ => rfl)) (by rfl) (by first | exact .inl rfl | exact .inr rfl | assumption)) (@pss_cons _ _ _ _ _ (@ps_set _ _ (i:=3) _ _ _ _ sc_piece_in.nd rfl (by first | exact Or.inl rfl | exact Or.inr rfl) (@pe_slice _ _ _ _ _ _ _ _ _ _ sl_any (pv 2) (@po_some _ _ _ (@pe_int _ _ _ _)) (@po_none _)) (by rfl) (by first | exact .inl rfl | exact .inr rfl | assumption)) (@pss_cons _ _ _ _ _ (@ps_expr _ _ _ _ (@pe_callO _ _ _ _ _ _ _ _ _ _ o_refuse_unless hr rfl (@pa_cons _ _ _ _ _ (@pe_and _ _ _ _ _ _ _ (@pe_chain _ _ _ _ _ _ _ _ _ _ _ _ op_le op_le (@pe_int _ _ _ _) (@pe_callB _ _ _ _ _ _ _ _ _ c_len rfl T.z_len bt_len (@pa_cons _ _ _ _ _ (pv 3) (@pa_nil _) (by rfl)) (by decide) (by decide) (by rfl) (by rfl)) (@pe_glob _ _ (v:=(.int 8)) _ _ rfl g_MOST_PARAMS ⟨_,rfl⟩ (by decide)) (by with_unfolding_all rfl)) (@pe_one _ _ _ _ _ (@pe_callB _ _ _ _ _ _ _ _ _ (c_allB rfl) rfl T.z_all bt_all (@pa_cons _ _ _ _ _ (@pe_comp _ _ _ _ _ _ _ _ _ _ _ _ _ _ (@comp_ck _ _ (sc:=defScope s_piece_in) (N:=["lines","counts","words","params"]) (tn:=["word"]) (names:=[]) (is:=[]) rfl rfl (by decide +kernel) (by decide +kernel) rfl (by decide +kernel) rfl (by decide +kernel) (by decide +kernel) (by decide +kernel)) rfl (@pi_list _ _ _ _ (@pe_slice _ _ _ _ _ _ _ _ _ _ sl_any (pv 2) (@po_some _ _ _ (@pe_int _ _ _ _)) (@po_none _))) (fun _ _ _ _ => (@pg_name _ _ (i:=0) _ (show (["word"]:List Str).Nodup by decide +kernel) rfl (Or.inl rfl) (Or.inr rfl))) (fun _ _ _ _ => (@pe_callO _ _ _ _ _ _ _ _ _ _ o_is_part hr rfl (@pa_cons _ _ _ _ _ (pv 0) (@pa_nil _) (by rfl)) (by decide) (by rfl) (by rfl))) (fun _ _ _ _ => (@pts_none _)) (by intro _; rfl)) (@pa_nil _) (by rfl)) (by decide) (by decide) (by rfl) (by rfl)))) (@pa_cons _ _ _ _ _ (pv 2) (@pa_nil _) (by rfl)) (by rfl)) (by decide) (by rfl) (by rfl)) (by rfl)) (@pss_cons _ _ _ _ _ (@ps_expr _ _ _ _ (@pe_callO _ _ _ _ _ _ _ _ _ _ o_refuse_unless hr rfl (@pa_cons _ _ _ _ _ (@pe_and _ _ _ _ _ _ _ (@pe_cmpR _ _ _ _ _ _ _ _ (op_eqA hr.units) (@pe_callB _ _ _ _ _ _ _ _ _ c_lenS rfl T.z_len bt_len (@pa_cons _ _ _ _ _ (@pe_callTy _ _ _ _ _ _ _ _ _ (call_setS rfl) rfl T.z_set bt_set (@pa_cons _ _ _ _ _ (pv 3) (@pa_nil _) (by rfl)) (by decide) (by decide) (by rfl) (by rfl)) (@pa_nil _) (by rfl)) (by decide) (by decide) (by rfl) (by rfl)) (@pe_callB _ _ _ _ _ _ _ _ _ c_len rfl T.z_len bt_len (@pa_cons _ _ _ _ _ (pv 3) (@pa_nil _) (by rfl)) (by decide) (by decide) (by rfl) (by rfl)) (nomark _)) (@pe_one _ _ _ _ _ (@pe_cmp _ _ _ _ _ _ (@pc_dnotin _ _ _ _ _ hr.u1 (@pe_ix _ _ _ _ _ _ _ ix_LT (pv 2) (@pe_int _ _ _ _) (fun _ _ => rfl)) (pv 1)) (by first | exact nobehind _ (by decide) (by decide) | rfl)))) (@pa_cons _ _ _ _ _ (pv 2) (@pa_nil _) (by rfl)) (by rfl)) (by decide) (by rfl) (by rfl)) (by rfl)) (@pss_cons _ _ _ _ _ (@ps_expr _ _ _ _ (@pe_callO _ _ _ _ _ _ _ _ _ _ o_refuse_unless hr rfl (@pa_cons _ _ _ _ _ (@pe_cmpR _ _ _ _ _ _ _ _ op_gt (@pe_callB _ _ _ _ _ _ _ _ _ c_len rfl T.z_len bt_len (@pa_cons _ _ _ _ _ (pv 0) (@pa_nil _) (by rfl)) (by decide) (by decide) (by rfl) (by rfl)) (@pe_int _ _ _ _) (nomark _)) (@pa_cons _ _ _ _ _ (pv 2) (@pa_nil _) (by rfl)) (by rfl)) (by decide) (by rfl) (by rfl)) (by rfl)) (@pss_one _ _ _ (@ps_ret _ _ _ _ (@pe_tup _ _ _ _ _ (@pa_cons _ _ _ _ _ (@pe_str _ _ _ _) (@pa_cons _ _ _ _ _ (@pe_ix _ _ _ _ _ _ _ ix_LT (pv 2) (@pe_int _ _ _ _) (fun _ _ => rfl)) (@pa_cons _ _ _ _ _ (@pe_callTy _ _ _ _ _ _ _ _ _ call_tuple_of rfl T.z_tuple bt_tuple (@pa_cons _ _ _ _ _ (pv 3) (@pa_nil _) (by rfl)) (by decide) (by decide) (by rfl) (by rfl)) (@pa_cons _ _ _ _ _ (@pe_callTy _ _ _ _ _ _ _ _ _ call_tuple_of rfl T.z_tuple bt_tuple (@pa_cons _ _ _ _ _ (@pe_comp _ _ _ _ _ _ _ _ _ _ _ _ _ _ (@comp_ck _ _ (sc:=defScope s_piece_in) (N:=["lines","counts","words","params"]) (tn:=["line"]) (names:=["counts"]) (is:=[1]) rfl rfl (by decide +kernel) (by decide +kernel) rfl (by decide +kernel) rfl (by decide +kernel) (by decide +kernel) (by decide +kernel)) rfl (@pi_list _ _ _ _ (@pe_slice _ _ _ _ _ _ _ _ _ _ sl_any (pv 0) (@po_some _ _ _ (@pe_int _ _ _ _)) (@po_none _))) (fun _ _ _ _ => (@pg_name _ _ (i:=0) _ (show (["line","counts"]:List Str).Nodup by decide +kernel) rfl (Or.inl rfl) (Or.inr rfl))) (fun _ _ _ _ => (@pe_callO _ _ _ _ _ _ _ _ _ _ o_plain_row_in hr rfl (@pa_cons _ _ _ _ _ (pv 0) (@pa_cons _ _ _ _ _ (pv 1) (@pa_nil _) (by rfl)) (by rfl)) (by decide) (by rfl) (by rfl))) (fun _ _ _ _ => (@pts_none _)) (by intro _; rfl)) (@pa_nil _) (by rfl)) (by decide) (by decide) (by rfl) (by rfl)) (@pa_nil _) (by rfl)) (by rfl)) (by rfl)) (by rfl)))))))))),?_⟩
    try dsimp only [cxK_nox,cxK_of]
    obtain ⟨w1,w2,w3,w4,⟨w5,w6,w7⟩,w8⟩:=hw
    obtain ⟨vs,hvs,pv⟩:=hl
    obtain ⟨v0,vr,rfl,⟨a0,rfl,ha0⟩,pr⟩:∃ v0 vr,vs = v0 :: vr /\ LnQ H v0 ("piece" :: x.1 :: x.2.1) /\ Paired (LnQ H) vr (x.2.2.map wdsT):=by
      cases pv with
      | cons h t => exact ⟨_,_,rfl,h,t⟩
    replace ha0:H a0 = some (.lst (.str "piece" :: .str x.1 :: x.2.1.map V.str)):=ha0
    have hrl:=Paired.length pr
    rw [List.length_map] at hrl
    have rpos:1 <= x.2.2.length:=List.length_pos_iff.mpr w2
    have hml:(V.str "piece" :: .str x.1 :: x.2.1.map V.str:List V).length = x.2.1.length + 2:=by rw [List.length_cons,List.length_cons,List.length_map]
    have hpl:(x.2.1.map V.str).length = x.2.1.length:=List.length_map _
    have i0:atI (V.ref a0 :: vr) 0 = some (.ref a0):=show atI _ ((0:Nat):Int) = _ from atI_nat rfl
    have i1:atI (V.str "piece" :: .str x.1 :: x.2.1.map V.str) 1 = some (.str x.1):=show atI _ ((1:Nat):Int) = _ from atI_nat rfl
    obtain ⟨kd,hk,hkl,hkv,hkn⟩:=id hd
    walk_at "go"
    refine r_ixl hvs i0 ?_
    walk_at "go"
    refine s_lst ha0 fun l1 hl1 => ?_
    rw [show cutV (V.str "piece" :: .str x.1 :: x.2.1.map V.str) (some 2) none = x.2.1.map V.str from cut_from (xs:=V.str "piece" :: .str x.1 :: x.2.1.map V.str) 2 (by omega)]
    have s1:=Same.new (o:=.lst (x.2.1.map V.str)) hl1
    have g1:=upd_same (H:=H) (a:=l1) (o:=.lst (x.2.1.map V.str))
    generalize L2.upd H l1 (.lst (x.2.1.map V.str)) = H1 at s1 g1 ⊢
    have ha1:=s1 _ _ ha0
    walk_at "go"
    refine s_lst ha1 fun l2 hl2 => ?_
    rw [show cutV (V.str "piece" :: .str x.1 :: x.2.1.map V.str) (some 1) none = (x.1 :: x.2.1).map V.str from cut_from (xs:=V.str "piece" :: .str x.1 :: x.2.1.map V.str) 1 (by omega)]
    have s2:=Same.new (o:=.lst ((x.1 :: x.2.1).map V.str)) hl2
    have g2:=upd_same (H:=H1) (a:=l2) (o:=.lst ((x.1 :: x.2.1).map V.str))
    generalize L2.upd H1 l2 (.lst ((x.1 :: x.2.1).map V.str)) = H2 at s2 g2 ⊢
    have hcl:((x.1 :: x.2.1).map V.str).length = x.2.1.length + 1:=by rw [List.length_map,List.length_cons]
    refine r_listK (SqL.of g2) ?_
    refine r_compL (xs:=(x.1 :: x.2.1).map V.str) (by omega) (fun acc i ys G => Kp acc H2 G /\ ys = (List.replicate i true).map V.bl) (fun acc h0 => ⟨Kp.new h0,rfl⟩) ?_ ?_ ?_
    . intro acc i ys G h0 _ ⟨kp,_⟩
      exact SqL.of (kp _ _ (ne_of_none g2 h0) g2)
    . intro acc i ys G y h0 hy hyl hG ⟨kp,e⟩
      rw [List.getElem?_map] at hy
      cases hz:(x.1 :: x.2.1)[i]? with
      | none => rw [hz] at hy; cases hy
      | some z =>
        rw [hz] at hy
        cases (Option.some.inj hy:V.str z = y)
        have hzp:=w7 z (List.mem_of_getElem? hz)
        walk_at "go"
        refine ⟨z,rfl,by have:=(part_facts hzp).2.1; omega,fun G1 t1 => ?_⟩
        rw [hzp]
        have hi:i < (x.1 :: x.2.1).length:=(List.getElem?_eq_some_iff.mp hz).1
        refine c_next (by rw [List.length_map]; exact hi) hyl (t1 _ _ hG) ⟨Kp.trans (Kp.trans kp t1.kp) Kp.upd,?_⟩
        rw [e,List.replicate_succ',List.map_append]
        rfl
    intro acc ys G h0 hG hyl ⟨kp,e⟩
    subst e
    have sG:Same H2 G:=fun b o h => kp _ _ (ne_of_none h h0) h
    have s3:=(s1.trans s2).trans sG
    walk_at "go"
    refine r_allB hG ?_
    rw [show (List.replicate ((x.1 :: x.2.1).map V.str).length true).all id = true by rw [List.all_eq_true]; intro b hb; rw [List.eq_of_mem_replicate hb]; rfl]
    walk_at "go"
    refine ⟨_,rfl,?_⟩
    have g1G:=sG _ _ (s2 _ _ g1)
    have ha3:=s3 _ _ ha0
    walk_at "go"
    refine r_setU g1G (by omega) fun l5 ys5 G5 hl5 s5 g5 nd5 mem5 => ?_
    have e5:=nd_same nd5 w4 mem5
    walk_at "go"
    refine ⟨l5,ys5,rfl,g5,?_⟩
    have s35:=s3.trans s5
    have g15:=s5 _ _ g1G
    have ha5:=s35 _ _ ha0
    have hk5:=s35 _ _ hk
    walk_at "go"
    refine r_ixl ha5 i1 ?_
    walk_at "go"
    refine r_dNs (.inl hk5) ?_
    rw [hkn x.1 w8]
    walk_at "go"
    refine ⟨_,rfl,?_⟩
    have hvs5:=s35 _ _ hvs
    have hvl:(V.ref a0 :: vr).length = x.2.2.length + 1:=by rw [List.length_cons,hrl]
    walk_at "go"
    rw [decide_eq_true (show (1:Int) < ((V.ref a0 :: vr).length:Int) by omega)]
    refine ⟨_,rfl,?_⟩
    walk_at "go"
    refine r_ixl ha5 i1 ?_
    walk_at "go"
    refine ⟨l1,_,rfl,.inl ⟨SqL.of g15,fun qa hqa => ?_⟩⟩
    have s6:=Same.new (o:=.tup (x.2.1.map V.str)) hqa
    have g6:=upd_same (H:=G5) (a:=qa) (o:=.tup (x.2.1.map V.str))
    generalize L2.upd G5 qa (.tup (x.2.1.map V.str)) = G6 at s6 g6 ⊢
    have hvs6:=s6 _ _ hvs5
    walk_at "go"
    refine s_lst hvs6 fun l7 hl7 => ?_
    rw [show cutV (V.ref a0 :: vr) (some 1) none = vr from cut_from (xs:=V.ref a0 :: vr) 1 (by omega)]
    have s7:=Same.new (o:=.lst vr) hl7
    have g7:=upd_same (H:=G6) (a:=l7) (o:=.lst vr)
    generalize L2.upd G6 l7 (.lst vr) = G7 at s7 g7 ⊢
    have s37:=s35.trans (s6.trans s7)
    refine r_listK (SqL.of g7) ?_
    refine r_compL (xs:=vr) (by omega) (fun acc i ys G => Kp acc G7 G /\ Paired (TRowQ G) ys (x.2.2.take i)) (fun acc h0 => ⟨Kp.new h0,.nil⟩) ?_ ?_ ?_
    . rintro acc i ys G h0 _ ⟨kp,_⟩
      exact SqL.of (kp _ _ (ne_of_none g7 h0) g7)
    . rintro acc i ys G y h0 hy hyl hG ⟨kp,pt⟩
      obtain ⟨ws,hws,a,rfl,ha⟩:=Paired.at pr hy
      rw [List.getElem?_map] at hws
      cases hr:x.2.2[i]? with
      | none => rw [hr] at hws; cases hws
      | some r =>
        rw [hr] at hws
        cases (Option.some.inj hws:wdsT r = ws)
        have sG7:Same G7 G:=fun b o h => kp _ _ (ne_of_none h h0) h
        have sHG:=s37.trans sG7
        walk_at "go"
        refine ⟨a,d,E,r,rfl,sHG _ _ ha,hd.sm sHG,w1 r (List.mem_of_getElem? hr),fun v G8 s8 rq => ?_⟩
        have tk:=TK.lst (o:=.lst (ys ++ [v])) (s8 _ _ hG)
        refine c_next (by have:=(List.getElem?_eq_some_iff.mp hy).1; exact this) hyl (s8 _ _ hG) ⟨(kp.trans s8.kp).trans Kp.upd,?_⟩
        rw [List.take_add_one,hr]
        exact Pd.snoc (Pd.imp pt fun v b f => (TRowQ.tk f s8.tk).tk tk) (rq.tk tk)
    rintro acc ys G h0 hG hyl ⟨kp,pt⟩
    rw [hrl,List.take_length] at pt
    have sG7:Same G7 G:=fun b o h => kp _ _ (ne_of_none h h0) h
    have sHG:=s37.trans sG7
    walk_at "go"
    refine ⟨acc,_,rfl,.inl ⟨SqL.of hG,fun p8 hp8 => ?_⟩⟩
    have s8:=Same.new (o:=.tup ys) hp8
    have g8:=upd_same (H:=G) (a:=p8) (o:=.tup ys)
    generalize L2.upd G p8 (.tup ys) = G8 at s8 g8 ⊢
    walk_at "go"
    refine r_tupK fun p9 hp9 => ?_
    have s9:=Same.new (o:=.tup [.str "piece",.str x.1,.ref qa,.ref p8]) hp9
    walk_at "go"
    exact q _ _ ((sHG.trans s8).trans s9) ⟨p9,qa,p8,ys,rfl,upd_same,s9 _ _ (s8 _ _ (sG7 _ _ (s7 _ _ g6))),s9 _ _ g8,Pd.imp pt fun v b f => (TRowQ.tk f s8.tk).tk s9.tk⟩
set_option maxHeartbeats 0 in
theorem ok_end_behind (T:Bl mg) (d:Df K mg "end_behind" s_end_behind ["lines","place"]  ):Okf P w K mg base (k + 1) "end_behind" ["lines","place"] (spEndB K):=by
  refine Okf.of d sc_end_behind (fun vs H Q E h => ?_) (fun f cdv A outer s H vs Q E hr h => ?_)
  . obtain ⟨l,ls,a,b,rfl,_⟩:=h
    rfl
  . obtain ⟨l,ls,a,b,rfl,hl,hn,hab,he,hno,q⟩:=h
    refine ⟨_,(@pss_cons _ _ _ _ _ (@ps_for _ _ _ _ _ _ _ _ PassesOwn.never rfl (@pi_range2 _ _ _ _ _ _ _ rfl T.z_range (@pa_cons _ _ _ _ _ (pv 1) (@pa_cons _ _ _ _ _ (@pe_callB _ _ _ _ _ _ _ _ _ c_len rfl T.z_len bt_len (@pa_cons _ _ _ _ _ (pv 0) (@pa_nil _) (by rfl)) (by decide) (by decide) (by rfl) (by rfl)) (@pa_nil _) (by rfl)) (by rfl)) (by rfl) (by rfl)) (@pg_name _ _ (i:=2) _ sc_end_behind.nd rfl (by first | exact Or.inl rfl | exact Or.inr rfl) (by first | exact .inl rfl | exact .inr rfl | assumption)) (@pss_one _ _ _ (@ps_if _ _ _ _ _ _ _ _ (@pt_cmpR _ _ _ _ _ _ _ _ (op_eqA hr.units) (@pe_ix _ _ _ _ _ _ _ ix_LT (pv 0) (pv 2) (fun _ _ => rfl)) (@pe_lst _ _ _ _ (@pa_cons _ _ _ _ _ (@pe_str _ _ _ _) (@pa_nil _) (by rfl))) (nomark _)) (@pss_one _ _ _ (@ps_ret _ _ _ _ (pv 2))) (@pss_nil _))) (by intro _; rfl)) (@pss_one _ _ _ (@ps_never _ _))),?_⟩
    try dsimp only [cxK_nox,cxK_of]
    obtain ⟨vs,hvs,pv⟩:=hl
    have hvl:=Paired.length pv
    have hb:b < ls.length:=(List.getElem?_eq_some_iff.mp he).1
    walk_at "go"
    refine r_rng2K (by omega) (by omega) (by omega) (by omega) ?_
    refine r_forR (n:=((vs.length:Int) - (a:Int)).toNat) (fun i σ G => ∃ (o2:Option V),σ = [some (.ref l),some (.int (a:Int)),o2] /\ Same H G /\ a + i <= b) ⟨_,rfl,Same.refl _,hab⟩ ?_ ?_
    . rintro i σ G hi ⟨o2,rfl,sG,hib⟩
      obtain ⟨ws,hws⟩:∃ ws,ls[a + i]? = some ws:=⟨_,List.getElem?_eq_getElem (by omega)⟩
      obtain ⟨v,hv⟩:∃ v,vs[a + i]? = some v:=⟨_,List.getElem?_eq_getElem (by omega)⟩
      obtain ⟨ws',hws',a1,rfl,ha1⟩:=Paired.at pv hv
      rw [hws] at hws'
      cases hws'
      walk_at "go"
      rw [show ((a:Int) + (i:Int)) = ((a + i:Nat):Int) by omega]
      refine r_ixl (sG _ _ hvs) (atI_nat hv) ?_
      walk_at "go"
      refine r_lstK fun l9 hl9 => ?_
      have s9:=Same.new (o:=.lst [V.str "end"]) hl9
      have g9:=upd_same (H:=G) (a:=l9) (o:=.lst [V.str "end"])
      generalize L2.upd G l9 (.lst [V.str "end"]) = G9 at s9 g9 ⊢
      refine e_strs (xs:=ws) (ys:=[("end":Str)]) (s9 _ _ (sG _ _ ha1)) g9 ?_
      by_cases e:ws = [("end":Str)]
      . have hj:a + i = b:=by
          rcases Nat.lt_or_ge (a + i) b with h | h
          . exact absurd e (hno _ (by omega) h ws hws)
          . omega
        rw [decide_eq_true e]
        walk_at "go"
        rw [hj]
        exact q _ (sG.trans s9)
      . rw [decide_eq_false e]
        walk_at "go"
        refine ⟨_,rfl,sG.trans s9,?_⟩
        rcases Nat.lt_or_ge (a + i) b with h | h
        . omega
        . have:a + i = b:=by omega
          rw [this,he] at hws
          exact absurd (Option.some.inj hws).symm e
    rintro σ G ⟨o2,rfl,sG,hib⟩
    omega
set_option maxHeartbeats 0 in
theorem ok_lines_in (T:Bl mg) (d:Df K mg "lines_in" s_lines_in ["text"]  ) {tk_MOST_ROWS:Tok} (g_MOST_ROWS:mg "MOST_ROWS" = some (.int 60 tk_MOST_ROWS)):Okf P w K mg base (k + 1) "lines_in" ["text"] (spLinesIn K):=by
  refine Okf.of d sc_lines_in (fun vs H Q E h => ?_) (fun f cdv A outer s H vs Q E hr h => ?_)
  . obtain ⟨ls,rfl,_⟩:=h
    rfl
  . obtain ⟨ls,rfl,hne,hn,hw,hz,q⟩:=h
    refine ⟨_,(@pss_cons _ _ _ _ _ (@ps_if _ _ _ _ _ _ _ _ (@pt_not _ _ _ _ (@pt_val _ _ _ (@pe_callB _ _ _ _ _ _ _ _ _ (call_isTy (T:="str")) rfl T.z_isinstance bt_isinstance (@pa_cons _ _ _ _ _ (pv 0) (@pa_cons _ _ _ _ _ (@pe_bltn _ _ (v:=.ty "str") _ _ rfl T.z_str bt_str rfl (by decide) (by decide)) (@pa_nil _) (by rfl)) (by rfl)) (by decide) (by decide) (by rfl) (by rfl)) (by intro _; rfl))) (@pss_one _ _ _ (@ps_never _ _)) (@pss_nil _)) (@pss_cons _ _ _ _ _ (@ps_setC _ _ _ _ _ _ _ _ _ _ _ _ _ _ (i:=1) _ _ _ sc_lines_in.nd rfl (by first | exact Or.inl rfl | exact Or.inr rfl) (@comp_ck _ _ (sc:=defScope s_lines_in) (N:=["text","lines"]) (tn:=["line"]) (names:=[]) (is:=[]) rfl rfl (by decide +kernel) (by decide +kernel) rfl (by decide +kernel) rfl (by decide +kernel) (by decide +kernel) (by decide +kernel)) rfl (@pi_list _ _ _ _ (@pe_bm _ _ _ _ _ _ _ _ _ _ _ _ PySem.F.plainAttrs_str PySem.F.slot_str_split PySem.F.type_str_split mt_split (pv 0) (@pa_cons _ _ _ _ _ (@pe_str _ _ _ _) (@pa_nil _) (by rfl)) (by rfl) (by rfl) (by rfl) (by rfl) (by rfl))) (fun _ _ _ _ => (@pg_name _ _ (i:=0) _ (show (["line"]:List Str).Nodup by decide +kernel) rfl (Or.inl rfl) (Or.inr rfl))) (fun _ _ _ _ => (@pe_bmc _ _ _ _ _ _ _ _ _ _ _ _ _ _ _ _ _ _ _ PySem.F.plainAttrs_str PySem.F.slot_str_split PySem.F.type_str_split mt_split (pv 0) (@pa_cons _ _ _ _ _ (@pe_str _ _ _ _) (@pa_nil _) (by rfl)) (by rfl) (by rfl) (by rfl) (by rfl) (by rfl))) (fun _ _ _ _ => (@pts_none _)) (by intro _; rfl) (by rfl) (by first | exact .inl rfl | exact .inr rfl | assumption)) (@pss_cons _ _ _ _ _ (@ps_if _ _ _ _ _ _ _ _ (@pt_cmpR _ _ _ _ _ _ _ _ op_gt (@pe_callB _ _ _ _ _ _ _ _ _ c_len rfl T.z_len bt_len (@pa_cons _ _ _ _ _ (pv 1) (@pa_nil _) (by rfl)) (by decide) (by decide) (by rfl) (by rfl)) (@pe_glob _ _ (v:=(.int 60)) _ _ rfl g_MOST_ROWS ⟨_,rfl⟩ (by decide)) (nomark _)) (@pss_one _ _ _ (@ps_never _ _)) (@pss_nil _)) (@pss_one _ _ _ (@ps_ret _ _ _ _ (pv 1)))))),?_⟩
    try dsimp only [cxK_nox,cxK_of]
    have e1:=text_split hne fun ws hws => (hw ws hws).2.1
    walk_at "go"
    refine r_isTy (.str _) kit_str_str ?_
    walk_at "go"
    refine r_split (z:=textL ls) (y:=sp3) (by decide +kernel) hz fun l1 hl1 => ?_
    rw [e1]
    have hml:((ls.map (Str.join sp1)).map V.str).length = ls.length:=by rw [List.length_map,List.length_map]
    have s1:=Same.new (o:=.lst ((ls.map (Str.join sp1)).map V.str)) hl1
    have g1:=upd_same (H:=H) (a:=l1) (o:=.lst ((ls.map (Str.join sp1)).map V.str))
    generalize L2.upd H l1 (.lst ((ls.map (Str.join sp1)).map V.str)) = H1 at s1 g1 ⊢
    refine r_listK (SqL.of g1) ?_
    refine r_compL (xs:=(ls.map (Str.join sp1)).map V.str) (by omega) (fun acc i ys G => Kp acc H1 G /\ Paired (LnQ G) ys (ls.take i) /\ ∀ v ∈ ys,v ≠ .ref acc) (fun acc h0 => ⟨Kp.new h0,.nil,fun _ h => nomatch h⟩) ?_ ?_ ?_
    . rintro acc i ys G h0 _ ⟨kp,_⟩
      exact SqL.of (kp _ _ (ne_of_none g1 h0) g1)
    . rintro acc i ys G y h0 hy hyl hG ⟨kp,pt,hna⟩
      rw [List.getElem?_map,List.getElem?_map] at hy
      cases hr:ls[i]? with
      | none => rw [hr] at hy; cases hy
      | some ws =>
        rw [hr] at hy
        cases (Option.some.inj hy:V.str (Str.join sp1 ws) = y)
        obtain ⟨q1,q2,q3⟩:=hw ws (List.mem_of_getElem? hr)
        walk_at "go"
        refine r_split (z:=Str.join sp1 ws) (y:=sp1) (by decide +kernel) (by omega) fun l2 hl2 => ?_
        rw [line_split q1 q2]
        have s2:=Same.new (o:=.lst (ws.map V.str)) hl2
        have g2:=upd_same (H:=G) (a:=l2) (o:=.lst (ws.map V.str))
        generalize L2.upd G l2 (.lst (ws.map V.str)) = G2 at s2 g2 ⊢
        have n2:l2 ≠ acc:=fun e => by rw [e,hG] at hl2; cases hl2
        refine c_next (by have:=(List.getElem?_eq_some_iff.mp hr).1; omega) hyl (s2 _ _ hG) ⟨(kp.trans s2.kp).trans Kp.upd,?_,?_⟩
        . rw [List.take_add_one,hr]
          refine Pd.snoc (Pd.keep pt fun v b hv ⟨a,e,f⟩ => ⟨a,e,?_⟩) ⟨l2,rfl,by rw [upd_ne n2]; exact g2⟩
          rw [upd_ne fun z => hna v hv (by rw [e,z])]
          exact s2 _ _ f
        . intro v hv
          rcases List.mem_append.mp hv with h | h
          . exact hna v h
          . rw [List.mem_singleton.mp h]
            exact fun z => n2 (by cases z; rfl)
    rintro acc ys G h0 hG hyl ⟨kp,pt,hna⟩
    rw [hml,List.take_length] at pt
    have sG:Same H1 G:=fun b o h => kp _ _ (ne_of_none h h0) h
    have hyl':ys.length <= 60:=by omega
    walk_at "go"
    exact q acc G (s1.trans sG) ⟨ys,hG,pt⟩
set_option maxHeartbeats 0 in
theorem ok_read_rows (T:Bl mg) (d:Df K mg "read_rows" s_read_rows ["text"]  ) (o_piece_in:Okf P w K mg base k "piece_in" ["lines","counts"] (spPieceIn K)) (o_end_behind:Okf P w K mg base k "end_behind" ["lines","place"] (spEndB K)) (o_plain_row_in:Okf P w K mg base k "plain_row_in" ["words","counts"] (spPlainIn K)) (o_lines_in:Okf P w K mg base k "lines_in" ["text"] (spLinesIn K)):Okf P w K mg base (k + 1) "read_rows" ["text"] (spReadRows K):=by
  refine Okf.of d sc_read_rows (fun vs H Q E h => ?_) (fun f cdv A outer s H vs Q E hr h => ?_)
  . obtain ⟨gs,rfl,_⟩:=h
    rfl
  . obtain ⟨gs,rfl,hne,hb,hn,hz,q⟩:=h
    refine ⟨_,(@pss_cons _ _ _ _ _ (@ps_set _ _ (i:=1) _ _ _ _ sc_read_rows.nd rfl (by first | exact Or.inl rfl | exact Or.inr rfl) (@pe_callO _ _ _ _ _ _ _ _ _ _ o_lines_in hr rfl (@pa_cons _ _ _ _ _ (pv 0) (@pa_nil _) (by rfl)) (by decide) (by rfl) (by rfl)) (by rfl) (by first | exact .inl rfl | exact .inr rfl | assumption)) (@pss_cons _ _ _ _ _ (@ps_set _ _ (i:=2) _ _ _ _ sc_read_rows.nd rfl (by first | exact Or.inl rfl | exact Or.inr rfl) (@pe_lst _ _ _ _ (@pa_nil _)) (by rfl) (by first | exact .inl rfl | exact .inr rfl | assumption)) (@pss_cons _ _ _ _ _ (@ps_set _ _ (i:=3) _ _ _ _ sc_read_rows.nd rfl (by first | exact Or.inl rfl | exact Or.inr rfl) (@pe_dnewK _ _) (by rfl) (by first | exact .inl rfl | exact .inr rfl | assumption)) (@pss_cons _ _ _ _ _ (@ps_set _ _ (i:=4) _ _ _ _ sc_read_rows.nd rfl (by first | exact Or.inl rfl | exact Or.inr rfl) (@pe_int _ _ _ _) (by rfl) (by first | exact .inl rfl | exact .inr rfl | assumption)) (@pss_cons _ _ _ _ _ (@ps_while _ _ _ _ _ _ PassesOwn.never (@pt_cmpR _ _ _ _ _ _ _ _ op_lt (pv 4) (@pe_callB _ _ _ _ _ _ _ _ _ c_len rfl T.z_len bt_len (@pa_cons _ _ _ _ _ (pv 1) (@pa_nil _) (by rfl)) (by decide) (by decide) (by rfl) (by rfl)) (nomark _)) (@pss_one _ _ _ (@ps_if _ _ _ _ _ _ _ _ (@pt_cmpR _ _ _ _ _ _ _ _ (op_eqA hr.units) (@pe_ix _ _ _ _ _ _ _ ix_LT (@pe_ix _ _ _ _ _ _ _ ix_LT (pv 1) (pv 4) (fun _ _ => rfl)) (@pe_int _ _ _ _) (fun _ _ => rfl)) (@pe_str _ _ _ _) (nomark _)) (@pss_cons _ _ _ _ _ (@ps_set _ _ (i:=5) _ _ _ _ sc_read_rows.nd rfl (by first | exact Or.inl rfl | exact Or.inr rfl) (@pe_callO _ _ _ _ _ _ _ _ _ _ o_end_behind hr rfl (@pa_cons _ _ _ _ _ (pv 1) (@pa_cons _ _ _ _ _ (pv 4) (@pa_nil _) (by rfl)) (by rfl)) (by decide) (by rfl) (by rfl)) (by rfl) (by first | exact .inl rfl | exact .inr rfl | assumption)) (@pss_cons _ _ _ _ _ (@ps_set _ _ (i:=6) _ _ _ _ sc_read_rows.nd rfl (by first | exact Or.inl rfl | exact Or.inr rfl) (@pe_callO _ _ _ _ _ _ _ _ _ _ o_piece_in hr rfl (@pa_cons _ _ _ _ _ (@pe_slice _ _ _ _ _ _ _ _ _ _ sl_any (pv 1) (@po_some _ _ _ (pv 4)) (@po_some _ _ _ (pv 5))) (@pa_cons _ _ _ _ _ (pv 3) (@pa_nil _) (by rfl)) (by rfl)) (by decide) (by rfl) (by rfl)) (by rfl) (by first | exact .inl rfl | exact .inr rfl | assumption)) (@pss_cons _ _ _ _ _ (@ps_dput _ _ _ _ _ _ _ _ _ hr.u1 (pv 3) (@pe_ix _ _ _ _ _ _ _ ix_LT (pv 6) (@pe_int _ _ _ _) (fun _ _ => rfl)) (@pe_callB _ _ _ _ _ _ _ _ _ c_len rfl T.z_len bt_len (@pa_cons _ _ _ _ _ (@pe_ix _ _ _ _ _ _ _ ix_LT (pv 6) (@pe_int _ _ _ _) (fun _ _ => rfl)) (@pa_nil _) (by rfl)) (by decide) (by decide) (by rfl) (by rfl)) rfl) (@pss_cons _ _ _ _ _ (@ps_expr _ _ _ _ (@pe_bm _ _ _ _ _ _ _ _ _ _ _ _ PySem.F.plainAttrs_list PySem.F.slot_list_append PySem.F.type_list_append mt_append (pv 2) (@pa_cons _ _ _ _ _ (pv 6) (@pa_nil _) (by rfl)) (by rfl) (by rfl) (by rfl) (by rfl) (by rfl)) (by rfl)) (@pss_one _ _ _ (@ps_set _ _ (i:=4) _ _ _ _ sc_read_rows.nd rfl (by first | exact Or.inl rfl | exact Or.inr rfl) (@pe_op _ _ _ _ _ _ _ _ op_addA (pv 5) (@pe_int _ _ _ _)) (by rfl) (by first | exact .inl rfl | exact .inr rfl | assumption))))))) (@pss_cons _ _ _ _ _ (@ps_expr _ _ _ _ (@pe_bm _ _ _ _ _ _ _ _ _ _ _ _ PySem.F.plainAttrs_list PySem.F.slot_list_append PySem.F.type_list_append mt_append (pv 2) (@pa_cons _ _ _ _ _ (@pe_callO _ _ _ _ _ _ _ _ _ _ o_plain_row_in hr rfl (@pa_cons _ _ _ _ _ (@pe_ix _ _ _ _ _ _ _ ix_LT (pv 1) (pv 4) (fun _ _ => rfl)) (@pa_cons _ _ _ _ _ (pv 3) (@pa_nil _) (by rfl)) (by rfl)) (by decide) (by rfl) (by rfl)) (@pa_nil _) (by rfl)) (by rfl) (by rfl) (by rfl) (by rfl) (by rfl)) (by rfl)) (@pss_one _ _ _ (@ps_aug _ _ (i:=4) _ _ _ _ _ _ sc_read_rows.nd rfl (by first | exact Or.inl rfl | exact Or.inr rfl) (@pe_int _ _ _ _) ip_add (by first | exact .inl rfl | exact .inr rfl))))))) (@pss_one _ _ _ (@ps_ret _ _ _ _ (pv 2)))))))),?_⟩
    try dsimp only [cxK_nox,cxK_of]
    have hok:=lines_ok (E:=[]) trivial hb.wf
    have hll:=lines_len gs
    have hpos:∀ g:GRow,1 <= (linesG g).length:=fun g => by cases g <;> exact Nat.succ_pos _
    have hlne:gs.flatMap linesG ≠ []:=fun e => by
      rw [e] at hll
      have:=ln_le gs
      have:=List.length_pos_iff.mpr hne
      simp at hll
      omega
    walk_at "go"
    refine ⟨gs.flatMap linesG,rfl,hlne,by omega,hok,hz,fun ll H1 s1 hls => ?_⟩
    obtain ⟨vs,hvs,pv⟩:=id hls
    have hvl:=Paired.length pv
    walk_at "go"
    refine r_lstK fun lr hlr => ?_
    have a2:=Same.new (o:=.lst []) hlr
    have b2:=upd_same (H:=H1) (a:=lr) (o:=.lst [])
    generalize L2.upd H1 lr (.lst []) = H2 at a2 b2 ⊢
    walk_at "go"
    refine r_dnew fun dc hdc => ?_
    have a3:=Same.new (o:=.dK []) hdc
    have b3:=upd_same (H:=H2) (a:=dc) (o:=.dK [])
    generalize L2.upd H2 dc (.dK []) = H3 at a3 b3 ⊢
    have ndr:lr ≠ dc:=ne_of_none b2 hdc
    have hdc1:H1 dc = none:=a2.free hdc
    walk_at "go"
    refine r_whileO (fun m σ G => ∃ (i:Nat) (E:List Piece) (o5 o6:Option V),m + i = gs.length /\ σ = [some (.str (textL (gs.flatMap linesG))),some (.ref ll),some (.ref lr),some (.ref dc),some (.int ((((gs.take i).flatMap linesG).length:Nat):Int)),o5,o6] /\ (∀ b o,b ≠ lr -> b ≠ dc -> H1 b = some o -> G b = some o) /\ TK H1 G /\ GsQ G lr (gs.take i) /\ CdQ G dc E /\ WfE E /\ WfG E (gs.drop i) /\ envG E (gs.drop i) = envG [] gs) (m0:=gs.length) ⟨0,[],_,_,rfl,rfl,fun b o _ _ h => a3 _ _ (a2 _ _ h),a2.tk.trans a3.tk,⟨[],a3 _ _ b2,.nil⟩,⟨[],b3,Nat.le_refl _,fun _ h => (nomatch h),fun _ _ => rfl⟩,trivial,hb.wf,rfl⟩ ?_
    rintro m σ G ⟨i,E,o5,o6,him,rfl,kp,tk,⟨xs,hxs,px⟩,cd,hE,hW,eE⟩
    have sG:Same H1 G:=fun b o h => kp b o (ne_of_none h hlr) (ne_of_none h hdc1) h
    have hvsG:=sG _ _ hvs
    have hxl:=Paired.length px
    rw [List.length_take] at hxl
    have few:=hb.few
    have tot:((gs.take i).flatMap linesG).length <= (gs.flatMap linesG).length:=by
      have e:=congrArg (fun l => (List.flatMap linesG l).length) (List.take_append_drop i gs)
      simp only [List.flatMap_append,List.length_append] at e
      omega
    walk_at "go"
    refine i_d (fun c1 => ?_) (fun c1 => ?_)
    . have hi:i < gs.length:=by
        rcases Nat.lt_or_ge i gs.length with h | h
        . exact h
        . rw [List.take_of_length_le h] at c1
          omega
      obtain ⟨g,hg⟩:∃ g,gs[i]? = some g:=⟨_,List.getElem?_eq_getElem hi⟩
      refine ⟨fun σ' G' => ∃ m',m' < m /\ ∃ (i:Nat) (E:List Piece) (o5 o6:Option V),m' + i = gs.length /\ σ' = [some (.str (textL (gs.flatMap linesG))),some (.ref ll),some (.ref lr),some (.ref dc),some (.int ((((gs.take i).flatMap linesG).length:Nat):Int)),o5,o6] /\ (∀ b o,b ≠ lr -> b ≠ dc -> H1 b = some o -> G' b = some o) /\ TK H1 G' /\ GsQ G' lr (gs.take i) /\ CdQ G' dc E /\ WfE E /\ WfG E (gs.drop i) /\ envG E (gs.drop i) = envG [] gs,fun σ' G' h => h,?_⟩
      rw [drop_at hg] at hW eE
      have h8:E.length <= 8:=by
        have:=env_le (gs:=g :: gs.drop (i + 1)) (E:=E)
        rw [eE] at this
        exact Nat.le_trans this hb.env
      have tk1:gs.take (i + 1) = gs.take i ++ [g]:=by rw [List.take_add_one,hg]; rfl
      have pl1:((gs.take (i + 1)).flatMap linesG).length = ((gs.take i).flatMap linesG).length + (linesG g).length:=by rw [tk1,List.flatMap_append,List.length_append]; simp
      have at0:=fun (j:Nat) (hj:j < (linesG g).length) => line_at hg hj
      have lle:((gs.take i).flatMap linesG).length + (linesG g).length <= (gs.flatMap linesG).length:=by
        rw [← pl1]
        have e:=congrArg (fun l => (List.flatMap linesG l).length) (List.take_append_drop (i + 1) gs)
        simp only [List.flatMap_append,List.length_append] at e
        omega
      generalize hpl:((gs.take i).flatMap linesG).length = pl at *
      obtain ⟨v,hv⟩:∃ v,vs[pl]? = some v:=⟨_,List.getElem?_eq_getElem (by have:=hpos g; omega)⟩
      obtain ⟨ws,hws,a,rfl,ha⟩:=Paired.at pv hv
      have hws0:(linesG g)[0]? = some ws:=by rw [← at0 0 (hpos g)]; exact hws
      have haG:=sG _ _ ha
      cases g with
      | one r =>
        have e0:ws = wdsT r:=(Option.some.inj hws0).symm
        subst e0
        obtain ⟨kw,wr,ew,nk⟩:=row_no_piece r
        walk_at "go"
        refine r_ixl hvsG (atI_nat hv) ?_
        walk_at "go"
        refine r_ixl haG (v:=.str kw) (by rw [ew]; exact show atI (V.str kw :: wr.map V.str) ((0:Nat):Int) = _ from atI_nat rfl) ?_
        walk_at "go"
        rw [if_neg (show ¬ (kw == "piece") = true by simpa using nk)]
        walk_at "go"
        refine r_ixl hvsG (atI_nat hv) ?_
        walk_at "go"
        refine ⟨a,dc,E,r,rfl,haG,cd,hW.1,fun u G2 s2 rq => ?_⟩
        walk_at "go"
        refine r_app (s2 _ _ hxs) (by omega) ?_
        have k3:Kp lr G2 (L2.upd G2 lr (.lst (xs ++ [u]))):=Kp.upd
        have tk3:=TK.lst (o:=.lst (xs ++ [u])) (s2 _ _ hxs)
        have g3:=upd_same (H:=G2) (a:=lr) (o:=.lst (xs ++ [u]))
        generalize L2.upd G2 lr (.lst (xs ++ [u])) = G3 at k3 tk3 g3 ⊢
        have g3r:GsQ G3 lr (gs.take (i + 1)):=⟨_,g3,by rw [tk1]; exact Pd.snoc (Pd.imp px fun v b f => (GRowQ.tk f s2.tk).tk tk3) (TRowQ.tk rq tk3)⟩
        have e9:((pl:Int) + 1) = (((((gs.take (i + 1)).flatMap linesG).length:Nat)):Int):=by rw [pl1]; rfl
        walk_at "go"
        refine r_aug rfl ?_
        refine ⟨_,_,rfl,rfl,?_⟩
        dsimp only [List.set]
        rw [e9]
        refine ⟨m - 1,by omega,i + 1,E,_,_,by omega,rfl,fun b o h1 h2 h => k3 _ _ h1 (s2 _ _ (kp b o h1 h2 h)),(tk.trans s2.tk).trans tk3,g3r,?_,hE,hW.2,eE⟩
        obtain ⟨kd,hk,hkl,hkv⟩:=cd.sm s2
        exact ⟨kd,k3 _ _ (fun e => ndr e.symm) hk,hkl,hkv⟩
      | piece p =>
        have e0:ws = ("piece":Str) :: p.1 :: p.2.1:=(Option.some.inj hws0).symm
        subst e0
        have plen:=piece_len p
        have rne:=List.length_pos_iff.mpr hW.1.2.1
        have hend:(gs.flatMap linesG)[pl + 1 + p.2.2.length]? = some [("end":Str)]:=by rw [Nat.add_assoc,at0 (1 + p.2.2.length) (by omega),Nat.add_comm 1]; exact piece_end p
        have hnoe:∀ j,pl <= j -> j < pl + 1 + p.2.2.length -> ∀ ws,(gs.flatMap linesG)[j]? = some ws -> ws ≠ [("end":Str)]:=by
          intro j hj1 hj2 ws hj
          rw [show j = pl + (j - pl) by omega,at0 (j - pl) (by omega)] at hj
          exact piece_no_end (by omega) hj
        walk_at "go"
        refine r_ixl hvsG (atI_nat hv) ?_
        walk_at "go"
        refine r_ixl haG (v:=.str "piece") (show atI (V.str "piece" :: _) ((0:Nat):Int) = _ from atI_nat rfl) ?_
        walk_at "go"
        refine ⟨ll,_,pl,pl + 1 + p.2.2.length,rfl,hls.sm sG,by omega,by omega,hend,hnoe,fun G1 t1 => ?_⟩
        have hvs1:=t1 _ _ hvsG
        walk_at "go"
        refine s_lst hvs1 fun l2 hl2 => ?_
        have ec:=cut_mid (xs:=vs) (a:=pl) (b:=pl + 1 + p.2.2.length) (by omega) (by omega)
        rw [show pl + 1 + p.2.2.length - pl = p.2.2.length + 1 by omega] at ec
        rw [ec]
        have pc2:Paired (LnQ H1) ((vs.drop pl).take (p.2.2.length + 1)) (("piece" :: p.1 :: p.2.1) :: p.2.2.map wdsT):=by
          have:=Pd.cut pv pl (p.2.2.length + 1)
          rw [← hpl,piece_lines hg,hpl] at this
          exact this
        generalize (vs.drop pl).take (p.2.2.length + 1) = ys at pc2 ⊢
        have t2:=Same.new (o:=.lst ys) hl2
        have g2:=upd_same (H:=G1) (a:=l2) (o:=.lst ys)
        generalize L2.upd G1 l2 (.lst ys) = G2 at t2 g2 ⊢
        have s12:=t1.trans t2
        walk_at "go"
        refine ⟨l2,dc,E,p,rfl,⟨ys,g2,Pd.imp pc2 fun _ _ f => f.sm (sG.trans s12)⟩,cd.sm s12,hW.1,by omega,fun u G3 t3 pq => ?_⟩
        obtain ⟨pp,q0,z0,xs0,rfl,h1,h2,h3,pt⟩:=id pq
        have s13:=s12.trans t3
        obtain ⟨kd,hk,hkl,hkv,hkn⟩:=cd.sm s13
        walk_at "go"
        refine r_dPs hk (by omega) ?_
        have tk4:=TK.dic (o:=.dK (putK kd (Sum.inr p.1) (.int ((p.2.1.map V.str).length:Int)))) hk
        have k4:Kp dc G3 (L2.upd G3 dc (.dK (putK kd (Sum.inr p.1) (.int ((p.2.1.map V.str).length:Int))))):=Kp.upd
        have g4:=upd_same (H:=G3) (a:=dc) (o:=.dK (putK kd (Sum.inr p.1) (.int ((p.2.1.map V.str).length:Int))))
        generalize L2.upd G3 dc (.dK (putK kd (Sum.inr p.1) (.int ((p.2.1.map V.str).length:Int)))) = G4 at tk4 k4 g4 ⊢
        have hx4:=k4 _ _ ndr (s13 _ _ hxs)
        walk_at "go"
        refine r_app hx4 (by omega) ?_
        have k5:Kp lr G4 (L2.upd G4 lr (.lst (xs ++ [.ref pp]))):=Kp.upd
        have tk5:=TK.lst (o:=.lst (xs ++ [.ref pp])) hx4
        have g5:=upd_same (H:=G4) (a:=lr) (o:=.lst (xs ++ [.ref pp]))
        generalize L2.upd G4 lr (.lst (xs ++ [.ref pp])) = G5 at k5 tk5 g5 ⊢
        have tk35:=tk4.trans tk5
        have g5r:GsQ G5 lr (gs.take (i + 1)):=⟨_,g5,by rw [tk1]; exact Pd.snoc (Pd.imp px fun v b f => (GRowQ.tk f s13.tk).tk tk35) (GRowQ.tk (r:=.piece p) pq tk35)⟩
        have g5d:=k5 _ _ (fun e => ndr e.symm) g4
        rw [List.length_map] at g5d
        have e9:(((pl + 1 + p.2.2.length:Nat):Int) + 1) = (((((gs.take (i + 1)).flatMap linesG).length:Nat)):Int):=by rw [pl1,plen]; omega
        walk_at "go"
        rw [e9]
        exact ⟨m - 1,by omega,i + 1,p :: E,_,_,by omega,rfl,fun b o h1 h2 h => k5 _ _ h1 (k4 _ _ h2 (s13 _ _ (kp b o h1 h2 h))),(tk.trans s13.tk).trans tk35,g5r,CdQ.put hW.1 hkl hkv hkn g5d,⟨hW.1,hE⟩,hW.2,eE⟩
    walk_at "go"
    have hi:gs.length <= i:=by
      rcases Nat.lt_or_ge i gs.length with h | h
      . exfalso
        obtain ⟨g,hg⟩:∃ g,gs[i]? = some g:=⟨_,List.getElem?_eq_getElem h⟩
        have e:=congrArg List.length (gs_at hg)
        rw [List.length_drop,List.length_append] at e
        have:=hpos g
        omega
      . exact h
    rw [List.take_of_length_le hi] at px
    exact q lr G (s1.free hlr) (s1.trans sG) ⟨xs,hxs,px⟩
set_option maxHeartbeats 0 in
theorem ok_words_of (T:Bl mg) (d:Df K mg "words_of" s_words_of ["row"]  ) (o_shown_fraction:Okf P w K mg base k "shown_fraction" ["each"] spShownF):Okf P w K mg base (k + 1) "words_of" ["row"] (spWordsOf K):=by
  refine Okf.of d sc_words_of (fun vs H Q E h => ?_) (fun f cdv A outer s H vs Q E hr h => ?_)
  . obtain ⟨v,g,E,rfl,_⟩:=h
    rfl
  . obtain ⟨v,g,E,rfl,hg,hw,q⟩:=h
    refine ⟨_,(@pss_cons _ _ _ _ _ (@ps_if _ _ _ _ _ _ _ _ (@pt_cmpR _ _ _ _ _ _ _ _ (op_eqA hr.units) (@pe_ix _ _ _ _ _ _ _ ix_LT (pv 0) (@pe_int _ _ _ _) (fun _ _ => rfl)) (@pe_str _ _ _ _) (nomark _)) (@pss_one _ _ _ (@ps_ret _ _ _ _ (@pe_lst _ _ _ _ (@pa_cons _ _ _ _ _ (@pe_ix _ _ _ _ _ _ _ ix_LT (pv 0) (@pe_int _ _ _ _) (fun _ _ => rfl)) (@pa_cons _ _ _ _ _ (@pe_ix _ _ _ _ _ _ _ ix_LT (pv 0) (@pe_int _ _ _ _) (fun _ _ => rfl)) (@pa_cons _ _ _ _ _ (@pe_ix _ _ _ _ _ _ _ ix_LT (pv 0) (@pe_int _ _ _ _) (fun _ _ => rfl)) (@pa_cons _ _ _ _ _ (@pe_callO _ _ _ _ _ _ _ _ _ _ o_shown_fraction hr rfl (@pa_cons _ _ _ _ _ (@pe_ix _ _ _ _ _ _ _ ix_LT (pv 0) (@pe_int _ _ _ _) (fun _ _ => rfl)) (@pa_nil _) (by rfl)) (by decide) (by rfl) (by rfl)) (@pa_nil _) (by rfl)) (by rfl)) (by rfl)) (by rfl))))) (@pss_nil _)) (@pss_cons _ _ _ _ _ (@ps_if _ _ _ _ _ _ _ _ (@pt_cmpR _ _ _ _ _ _ _ _ (op_eqA hr.units) (@pe_ix _ _ _ _ _ _ _ ix_LT (pv 0) (@pe_int _ _ _ _) (fun _ _ => rfl)) (@pe_str _ _ _ _) (nomark _)) (@pss_one _ _ _ (@ps_ret _ _ _ _ (@pe_op _ _ _ _ _ _ _ _ op_addA (@pe_lst _ _ _ _ (@pa_cons _ _ _ _ _ (@pe_ix _ _ _ _ _ _ _ ix_LT (pv 0) (@pe_int _ _ _ _) (fun _ _ => rfl)) (@pa_cons _ _ _ _ _ (@pe_ix _ _ _ _ _ _ _ ix_LT (pv 0) (@pe_int _ _ _ _) (fun _ _ => rfl)) (@pa_cons _ _ _ _ _ (@pe_ix _ _ _ _ _ _ _ ix_LT (pv 0) (@pe_int _ _ _ _) (fun _ _ => rfl)) (@pa_nil _) (by rfl)) (by rfl)) (by rfl))) (@pe_callTy _ _ _ _ _ _ _ _ _ c_list rfl T.z_list bt_list (@pa_cons _ _ _ _ _ (@pe_ix _ _ _ _ _ _ _ ix_LT (pv 0) (@pe_int _ _ _ _) (fun _ _ => rfl)) (@pa_nil _) (by rfl)) (by decide) (by decide) (by rfl) (by rfl))))) (@pss_nil _)) (@pss_cons _ _ _ _ _ (@ps_if _ _ _ _ _ _ _ _ (@pt_cmpR _ _ _ _ _ _ _ _ (op_eqA hr.units) (@pe_ix _ _ _ _ _ _ _ ix_LT (pv 0) (@pe_int _ _ _ _) (fun _ _ => rfl)) (@pe_str _ _ _ _) (nomark _)) (@pss_one _ _ _ (@ps_ret _ _ _ _ (@pe_op _ _ _ _ _ _ _ _ op_addA (@pe_lst _ _ _ _ (@pa_cons _ _ _ _ _ (@pe_ix _ _ _ _ _ _ _ ix_LT (pv 0) (@pe_int _ _ _ _) (fun _ _ => rfl)) (@pa_cons _ _ _ _ _ (@pe_ix _ _ _ _ _ _ _ ix_LT (pv 0) (@pe_int _ _ _ _) (fun _ _ => rfl)) (@pa_nil _) (by rfl)) (by rfl))) (@pe_callTy _ _ _ _ _ _ _ _ _ c_list rfl T.z_list bt_list (@pa_cons _ _ _ _ _ (@pe_ix _ _ _ _ _ _ _ ix_LT (pv 0) (@pe_int _ _ _ _) (fun _ _ => rfl)) (@pa_nil _) (by rfl)) (by decide) (by decide) (by rfl) (by rfl))))) (@pss_nil _)) (@pss_one _ _ _ (@ps_ret _ _ _ _ (@pe_op _ _ _ _ _ _ _ _ op_addA (@pe_lst _ _ _ _ (@pa_cons _ _ _ _ _ (@pe_ix _ _ _ _ _ _ _ ix_LT (pv 0) (@pe_int _ _ _ _) (fun _ _ => rfl)) (@pa_cons _ _ _ _ _ (@pe_callO _ _ _ _ _ _ _ _ _ _ o_shown_fraction hr rfl (@pa_cons _ _ _ _ _ (@pe_ix _ _ _ _ _ _ _ ix_LT (pv 0) (@pe_int _ _ _ _) (fun _ _ => rfl)) (@pa_nil _) (by rfl)) (by decide) (by rfl) (by rfl)) (@pa_nil _) (by rfl)) (by rfl))) (@pe_callTy _ _ _ _ _ _ _ _ _ c_list rfl T.z_list bt_list (@pa_cons _ _ _ _ _ (@pe_ix _ _ _ _ _ _ _ ix_LT (pv 0) (@pe_int _ _ _ _) (fun _ _ => rfl)) (@pa_nil _) (by rfl)) (by decide) (by decide) (by rfl) (by rfl)))))))),?_⟩
    try dsimp only [cxK_nox,cxK_of]
    cases g with
    | one r =>
      replace hw:=hw.1
      cases r with
      | plain r =>
        cases r with
        | run a b t =>
          obtain ⟨p,u,rfl,hp,hu⟩:=hg
          walk_at "go"
          refine ⟨u,t,rfl,hu,hw.2.2,?_⟩
          walk_at "go"
          refine r_lstK fun l hl => ?_
          walk_at "go"
          exact q l _ hl (Same.new hl) upd_same
        | path k t ps =>
          obtain ⟨p,u,z,rfl,hp,hu,hz⟩:=hg
          have h4:=hw.2.2.2.1
          cases k with
          | row =>
            walk_at "go"
            refine ⟨u,t,rfl,hu,hw.2.1,?_⟩
            walk_at "go"
            refine r_lstK fun l1 hl1 => ?_
            have t1:=Same.new (o:=.lst [V.str RKind.row.nm,.str (tmS t)]) hl1
            have g1:=upd_same (H:=H) (a:=l1) (o:=.lst [V.str RKind.row.nm,.str (tmS t)])
            generalize L2.upd H l1 (.lst [V.str RKind.row.nm,.str (tmS t)]) = H1 at t1 g1 ⊢
            have hp1:=t1 _ _ hp
            walk_at "go"
            refine ⟨z,_,rfl,.inr (SqT.of (t1 _ _ hz)),fun l2 hl2 => ?_⟩
            have t2:=t1.trans (Same.new (o:=.lst (ps.map V.str)) hl2)
            refine a_lst (upd_old hl2 g1) upd_same (by rw [List.length_map]; show 2 + _ <= _; omega) fun l3 hl3 => ?_
            walk_at "go"
            exact q l3 _ (t2.free hl3) (t2.trans (Same.new hl3)) upd_same
          | star =>
            walk_at "go"
            refine ⟨u,t,rfl,hu,hw.2.1,?_⟩
            walk_at "go"
            refine r_lstK fun l1 hl1 => ?_
            have t1:=Same.new (o:=.lst [V.str RKind.star.nm,.str (tmS t)]) hl1
            have g1:=upd_same (H:=H) (a:=l1) (o:=.lst [V.str RKind.star.nm,.str (tmS t)])
            generalize L2.upd H l1 (.lst [V.str RKind.star.nm,.str (tmS t)]) = H1 at t1 g1 ⊢
            have hp1:=t1 _ _ hp
            walk_at "go"
            refine ⟨z,_,rfl,.inr (SqT.of (t1 _ _ hz)),fun l2 hl2 => ?_⟩
            have t2:=t1.trans (Same.new (o:=.lst (ps.map V.str)) hl2)
            refine a_lst (upd_old hl2 g1) upd_same (by rw [List.length_map]; show 2 + _ <= _; omega) fun l3 hl3 => ?_
            walk_at "go"
            exact q l3 _ (t2.free hl3) (t2.trans (Same.new hl3)) upd_same
          | ring =>
            walk_at "go"
            refine ⟨u,t,rfl,hu,hw.2.1,?_⟩
            walk_at "go"
            refine r_lstK fun l1 hl1 => ?_
            have t1:=Same.new (o:=.lst [V.str RKind.ring.nm,.str (tmS t)]) hl1
            have g1:=upd_same (H:=H) (a:=l1) (o:=.lst [V.str RKind.ring.nm,.str (tmS t)])
            generalize L2.upd H l1 (.lst [V.str RKind.ring.nm,.str (tmS t)]) = H1 at t1 g1 ⊢
            have hp1:=t1 _ _ hp
            walk_at "go"
            refine ⟨z,_,rfl,.inr (SqT.of (t1 _ _ hz)),fun l2 hl2 => ?_⟩
            have t2:=t1.trans (Same.new (o:=.lst (ps.map V.str)) hl2)
            refine a_lst (upd_old hl2 g1) upd_same (by rw [List.length_map]; show 2 + _ <= _; omega) fun l3 hl3 => ?_
            walk_at "go"
            exact q l3 _ (t2.free hl3) (t2.trans (Same.new hl3)) upd_same
      | put nm cl as =>
        obtain ⟨p,q',rfl,hp,hq⟩:=hg
        have h4:=hw.2.2.1.2
        walk_at "go"
        refine r_lstK fun l1 hl1 => ?_
        have t1:=Same.new (o:=.lst [V.str "put",.str nm,.str cl]) hl1
        have g1:=upd_same (H:=H) (a:=l1) (o:=.lst [V.str "put",.str nm,.str cl])
        generalize L2.upd H l1 (.lst [V.str "put",.str nm,.str cl]) = H1 at t1 g1 ⊢
        have hp1:=t1 _ _ hp
        walk_at "go"
        refine ⟨q',_,rfl,.inr (SqT.of (t1 _ _ hq)),fun l2 hl2 => ?_⟩
        have t2:=t1.trans (Same.new (o:=.lst (as.map V.str)) hl2)
        refine a_lst (upd_old hl2 g1) upd_same (by rw [List.length_map]; show 3 + _ <= _; omega) fun l3 hl3 => ?_
        walk_at "go"
        exact q l3 _ (t2.free hl3) (t2.trans (Same.new hl3)) upd_same
    | piece x =>
      obtain ⟨p,q',z,xs,rfl,hp,hq,hz,px⟩:=hg
      have h4:=hw.1.2.2.2.2.1.2.1
      walk_at "go"
      refine r_lstK fun l1 hl1 => ?_
      have t1:=Same.new (o:=.lst [V.str "piece",.str x.1]) hl1
      have g1:=upd_same (H:=H) (a:=l1) (o:=.lst [V.str "piece",.str x.1])
      generalize L2.upd H l1 (.lst [V.str "piece",.str x.1]) = H1 at t1 g1 ⊢
      have hp1:=t1 _ _ hp
      walk_at "go"
      refine ⟨q',_,rfl,.inr (SqT.of (t1 _ _ hq)),fun l2 hl2 => ?_⟩
      have t2:=t1.trans (Same.new (o:=.lst (x.2.1.map V.str)) hl2)
      refine a_lst (upd_old hl2 g1) upd_same (by rw [List.length_map]; show 2 + _ <= _; omega) fun l3 hl3 => ?_
      walk_at "go"
      exact q l3 _ (t2.free hl3) (t2.trans (Same.new hl3)) upd_same
set_option maxHeartbeats 0 in
theorem ok_shown_rows (T:Bl mg) (d:Df K mg "shown_rows" s_shown_rows ["rows"]  ) (o_words_of:Okf P w K mg base k "words_of" ["row"] (spWordsOf K)):Okf P w K mg base (k + 1) "shown_rows" ["rows"] (spShownR K):=by
  refine Okf.of d sc_shown_rows (fun vs H Q E h => ?_) (fun f cdv A outer s H vs Q E hr h => ?_)
  . obtain ⟨l,gs,rfl,_⟩:=h
    rfl
  . obtain ⟨l,gs,rfl,hl,hb,hn,q⟩:=h
    refine ⟨_,(@pss_cons _ _ _ _ _ (@ps_set _ _ (i:=1) _ _ _ _ sc_shown_rows.nd rfl (by first | exact Or.inl rfl | exact Or.inr rfl) (@pe_lst _ _ _ _ (@pa_nil _)) (by rfl) (by first | exact .inl rfl | exact .inr rfl | assumption)) (@pss_cons _ _ _ _ _ (@ps_for _ _ _ _ _ _ _ _ PassesOwn.never rfl (@pi_list _ _ _ _ (pv 0)) (@pg_name _ _ (i:=2) _ sc_shown_rows.nd rfl (by first | exact Or.inl rfl | exact Or.inr rfl) (by first | exact .inl rfl | exact .inr rfl | assumption)) (@pss_cons _ _ _ _ _ (@ps_expr _ _ _ _ (@pe_bm _ _ _ _ _ _ _ _ _ _ _ _ PySem.F.plainAttrs_list PySem.F.slot_list_append PySem.F.type_list_append mt_append (pv 1) (@pa_cons _ _ _ _ _ (@pe_bm _ _ _ _ _ _ _ _ _ _ _ _ PySem.F.plainAttrs_str PySem.F.slot_str_join PySem.F.type_str_join mt_join (@pe_str _ _ _ _) (@pa_cons _ _ _ _ _ (@pe_callO _ _ _ _ _ _ _ _ _ _ o_words_of hr rfl (@pa_cons _ _ _ _ _ (pv 2) (@pa_nil _) (by rfl)) (by decide) (by rfl) (by rfl)) (@pa_nil _) (by rfl)) (by rfl) (by rfl) (by rfl) (by rfl) (by rfl)) (@pa_nil _) (by rfl)) (by rfl) (by rfl) (by rfl) (by rfl) (by rfl)) (by rfl)) (@pss_one _ _ _ (@ps_if _ _ _ _ _ _ _ _ (@pt_cmpR _ _ _ _ _ _ _ _ (op_eqA hr.units) (@pe_ix _ _ _ _ _ _ _ ix_LT (pv 2) (@pe_int _ _ _ _) (fun _ _ => rfl)) (@pe_str _ _ _ _) (nomark _)) (@pss_cons _ _ _ _ _ (@ps_expr _ _ _ _ (@pe_bm _ _ _ _ _ _ _ _ _ _ _ _ PySem.F.plainAttrs_list PySem.F.slot_list_extend PySem.F.type_list_extend mt_extend (pv 1) (@pa_cons _ _ _ _ _ (@pe_comp _ _ _ _ _ _ _ _ _ _ _ _ _ _ (@comp_ck _ _ (sc:=defScope s_shown_rows) (N:=["rows","lines","row"]) (tn:=["inner"]) (names:=[]) (is:=[]) rfl rfl (by decide +kernel) (by decide +kernel) rfl (by decide +kernel) rfl (by decide +kernel) (by decide +kernel) (by decide +kernel)) rfl (@pi_tup _ _ _ _ (@pe_ix _ _ _ _ _ _ _ ix_LT (pv 2) (@pe_int _ _ _ _) (fun _ _ => rfl))) (fun _ _ _ _ => (@pg_name _ _ (i:=0) _ (show (["inner"]:List Str).Nodup by decide +kernel) rfl (Or.inl rfl) (Or.inr rfl))) (fun _ _ _ _ => (@pe_bmc _ _ _ _ _ _ _ _ _ _ _ _ _ _ _ _ _ _ _ PySem.F.plainAttrs_str PySem.F.slot_str_join PySem.F.type_str_join mt_join (@pe_str _ _ _ _) (@pa_cons _ _ _ _ _ (@pe_callO _ _ _ _ _ _ _ _ _ _ o_words_of hr rfl (@pa_cons _ _ _ _ _ (pv 0) (@pa_nil _) (by rfl)) (by decide) (by rfl) (by rfl)) (@pa_nil _) (by rfl)) (by rfl) (by rfl) (by rfl) (by rfl) (by rfl))) (fun _ _ _ _ => (@pts_none _)) (by intro _; rfl)) (@pa_nil _) (by rfl)) (by rfl) (by rfl) (by rfl) (by rfl) (by rfl)) (by rfl)) (@pss_one _ _ _ (@ps_expr _ _ _ _ (@pe_bm _ _ _ _ _ _ _ _ _ _ _ _ PySem.F.plainAttrs_list PySem.F.slot_list_append PySem.F.type_list_append mt_append (pv 1) (@pa_cons _ _ _ _ _ (@pe_str _ _ _ _) (@pa_nil _) (by rfl)) (by rfl) (by rfl) (by rfl) (by rfl) (by rfl)) (by rfl)))) (@pss_nil _)))) (by intro _; rfl)) (@pss_one _ _ _ (@ps_ret _ _ _ _ (@pe_bm _ _ _ _ _ _ _ _ _ _ _ _ PySem.F.plainAttrs_str PySem.F.slot_str_join PySem.F.type_str_join mt_join (@pe_str _ _ _ _) (@pa_cons _ _ _ _ _ (pv 1) (@pa_nil _) (by rfl)) (by rfl) (by rfl) (by rfl) (by rfl) (by rfl)))))),?_⟩
    try dsimp only [cxK_nox,cxK_of]
    obtain ⟨xs,hxs,px⟩:=hl
    have hxl:=Paired.length px
    have hll:=lines_len gs
    have hok:=lines_ok (E:=[]) trivial hb.wf
    have es:(Str.ofString " ").length = 1:=by decide +kernel
    have cap:∀ {ys:List Str},ys.length <= 50 -> (∀ s ∈ ys,WdS s) -> (ys.map (·.length)).sum + ys.length * (Str.ofString " ").length <= 16777216:=fun {ys} hl hs => by
      have h1:=sum_cap fun s h => (hs s h).2.2
      have h2:ys.length * 100 <= 50 * 100:=Nat.mul_le_mul_right _ hl
      rw [es]
      omega
    walk_at "go"
    refine r_lstK fun l0 hl0 => ?_
    have s0:=Same.new (o:=.lst []) hl0
    have g0:=upd_same (H:=H) (a:=l0) (o:=.lst [])
    generalize L2.upd H l0 (.lst []) = H0 at s0 g0 ⊢
    have ndl:l ≠ l0:=ne_of_none hxs hl0
    walk_at "go"
    refine r_listK (SqL.of (s0 _ _ hxs)) ?_
    refine r_forL (xs:=xs) (fun i σ G => ∃ (E:List Piece) (o2:Option V),σ = [some (.ref l),some (.ref l0),o2] /\ Kp l0 H G /\ TK H G /\ G l0 = some (.lst (((gs.take i).flatMap linesG).map lnV)) /\ WfE E /\ WfG E (gs.drop i)) ⟨[],_,rfl,s0.kp,s0.tk,g0,trivial,hb.wf⟩ ?_ ?_ ?_
    . rintro i σ G _ ⟨E,o2,rfl,kp,_⟩
      exact SqL.of (kp _ _ ndl hxs)
    . rintro i y σ G hy ⟨E,o2,rfl,kp,tk,gl0,hE,hW⟩
      obtain ⟨g,hg,gq⟩:=Paired.at px hy
      rw [drop_at hg] at hW
      have tk1:gs.take (i + 1) = gs.take i ++ [g]:=by rw [List.take_add_one,hg]; rfl
      have hd:WfG E [g] /\ ∃ E',WfE E' /\ WfG E' (gs.drop (i + 1)):=by
        cases g with
        | one r => exact ⟨⟨hW.1,trivial⟩,E,hE,hW.2⟩
        | piece p => exact ⟨⟨hW.1,trivial⟩,p :: E,⟨hW.1,hE⟩,hW.2⟩
      obtain ⟨hd,E',hE',hW'⟩:=hd
      have lok:=lines_ok (E:=E) hE hd
      have cnt:((gs.take i).flatMap linesG).length + (linesG g).length <= (gs.flatMap linesG).length:=by
        have e:=congrArg List.length (gs_at hg)
        rw [List.length_drop,List.length_append] at e
        have e2:=congrArg (fun l => (List.flatMap linesG l).length) (List.take_append_drop i gs)
        simp only [List.flatMap_append,List.length_append] at e2
        omega
      have gq1:=GRowQ.tk gq tk
      have hdok:(hdG g).length <= 50 /\ ∀ s ∈ hdG g,WdS s:=⟨hd_len hd,(lok (hdG g) (by rw [List.flatMap_cons]; exact List.mem_append_left _ (hd_mem g))).2.1⟩
      walk_at "go"
      refine ⟨y,g,E,rfl,gq1,hd,fun l4 G4 hl4 t4 g4 => ?_⟩
      walk_at "go"
      refine ⟨_,l4,_,rfl,rfl,g4,cap hdok.1 hdok.2,?_⟩
      walk_at "go"
      have g40:=t4 _ _ gl0
      refine r_app g40 (by rw [List.length_map]; omega) ?_
      change (fun G5 => _) (L2.upd G4 l0 (.lst (((gs.take i).flatMap linesG).map lnV ++ [lnV (hdG g)])))
      have tk5:=TK.lst (o:=.lst (((gs.take i).flatMap linesG).map lnV ++ [lnV (hdG g)])) g40
      have k5:Kp l0 G4 (L2.upd G4 l0 (.lst (((gs.take i).flatMap linesG).map lnV ++ [lnV (hdG g)]))):=Kp.upd
      have g5:=upd_same (H:=G4) (a:=l0) (o:=.lst (((gs.take i).flatMap linesG).map lnV ++ [lnV (hdG g)]))
      generalize L2.upd G4 l0 (.lst (((gs.take i).flatMap linesG).map lnV ++ [lnV (hdG g)])) = G5 at tk5 k5 g5 ⊢
      dsimp only
      replace k5:=(kp.trans t4.kp).trans k5
      replace tk5:=t4.tk.trans tk5
      cases g with
      | one r =>
        obtain ⟨p,kk,ys,rfl,hp,hk⟩:=TRowQ.head (show TRowQ G _ r from gq1)
        have hp5:=tk5 _ _ hp
        walk_at "go"
        refine r_ixt hp5 (show atI (V.str kk :: ys) ((0:Nat):Int) = _ from atI_nat rfl) ?_
        walk_at "go"
        rw [if_neg (show ¬ (kk == "piece") = true by simpa using hk)]
        walk_at "go"
        refine ⟨E',_,rfl,k5,tk.trans tk5,?_,hE',hW'⟩
        rw [g5,tk1,List.flatMap_append,List.map_append]
        rfl
      | piece x =>
        obtain ⟨p,q',z,ys,rfl,hp,hq,hz,px'⟩:=(show PieceQ G _ x from gq1)
        obtain ⟨w1,w2,w3,_⟩:=hd.1
        have hyl:=Paired.length px'
        have hp5:=tk5 _ _ hp
        have hz5:=tk5 _ _ hz
        walk_at "go"
        refine r_tupIt (SqT.of hz5) ?_
        refine r_compT (xs:=ys) (by omega) (fun acc j us G' => Kp acc G5 G' /\ us = ((x.2.2.take j).map wdsT).map lnV) (fun acc h0 => ⟨Kp.new h0,rfl⟩) ?_ ?_ ?_
        . rintro acc j us G' h0 hj ⟨kp',_⟩
          exact SqT.of (kp' _ _ (ne_of_none hz5 h0) hz5)
        . rintro acc j us G' x' h0 hx' hwl hG' ⟨kp',rfl⟩
          obtain ⟨r,hr0,rq⟩:=Paired.at px' hx'
          have sG':Same G5 G':=fun b o h => kp' _ _ (ne_of_none h h0) h
          have hwr:=w1 r (List.mem_of_getElem? hr0)
          have rok:=row_ln hE hwr
          walk_at "go"
          refine ⟨_,.one r,E,rfl,TRowQ.tk rq (tk5.trans sG'.tk),⟨hwr,trivial⟩,fun l6 G6 hl6 t6 g6 => ?_⟩
          walk_at "go"
          refine ⟨_,l6,_,rfl,rfl,g6,cap (hd_len (E:=E) (g:=.one r) ⟨hwr,trivial⟩) rok.2.1,?_⟩
          refine c_next (by have:=(List.getElem?_eq_some_iff.mp hx').1; exact this) hwl (t6 _ _ hG') ⟨(kp'.trans t6.kp).trans Kp.upd,?_⟩
          rw [List.take_add_one,hr0,List.map_append,List.map_append]
          rfl
        . rintro acc us G' h0 hG' hwl ⟨kp',rfl⟩
          rw [hyl,List.take_length] at hG'
          have sG':Same G5 G':=fun b o h => kp' _ _ (ne_of_none h h0) h
          have hn0:l0 ≠ acc:=ne_of_none g5 h0
          have cl:=piece_len x
          walk_at "go"
          refine r_ext (sG' _ _ g5) hG' (by simp only [List.length_map,List.length_append,List.length_singleton]; omega) ?_
          have tk6:=TK.lst (o:=.lst (((gs.take i).flatMap linesG).map lnV ++ [lnV (hdG (.piece x))] ++ (x.2.2.map wdsT).map lnV)) (sG' _ _ g5)
          have k6:Kp l0 G' (L2.upd G' l0 (.lst (((gs.take i).flatMap linesG).map lnV ++ [lnV (hdG (.piece x))] ++ (x.2.2.map wdsT).map lnV))):=Kp.upd
          have g6:=upd_same (H:=G') (a:=l0) (o:=.lst (((gs.take i).flatMap linesG).map lnV ++ [lnV (hdG (.piece x))] ++ (x.2.2.map wdsT).map lnV))
          generalize L2.upd G' l0 (.lst (((gs.take i).flatMap linesG).map lnV ++ [lnV (hdG (.piece x))] ++ (x.2.2.map wdsT).map lnV)) = G6 at tk6 k6 g6 ⊢
          walk_at "go"
          refine r_app g6 (by simp only [List.length_map,List.length_append,List.length_singleton]; omega) ?_
          walk_at "go"
          refine ⟨E',_,rfl,((k5.trans sG'.kp).trans k6).trans Kp.upd,(tk.trans ((tk5.trans sG'.tk).trans tk6)).trans (TK.lst g6),?_,hE',hW'⟩
          rw [upd_same,tk1,List.flatMap_append,List.map_append]
          show some (HO.lst (_ ++ [lnV (hdG (.piece x))] ++ (x.2.2.map wdsT).map lnV ++ [V.str "end"])) = some (HO.lst (_ ++ ((hdG (.piece x) :: (x.2.2.map wdsT ++ [[("end":Str)]])) ++ []).map lnV))
          rw [List.append_nil,List.map_cons,List.map_append,List.append_assoc,List.append_assoc]
          rfl
    rintro σ G ⟨E,o2,rfl,kp,tk,gl0,_⟩
    rw [hxl,List.take_length] at gl0
    have glf2:G l0 = some (.lst (((gs.flatMap linesG).map (Str.join sp1)).map V.str)):=by rw [gl0,List.map_map]; rfl
    walk_at "go"
    refine ⟨_,l0,_,rfl,rfl,glf2,(lines_cap hb hn).1,?_⟩
    walk_at "go"
    exact q G (fun b o h => kp b o (ne_of_none h hl0) h)
theorem ok_cell_at (T:Bl mg) (d:Df K mg "_law_cell_at" s_cell_at ["_law_script","_law_k"]  ):Okf P w K mg base (k + 1) "_law_cell_at" ["_law_script","_law_k"] (spCell K):=by
  refine Okf.of d sc_cell_at (fun vs H Q E h => ?_) (fun f cdv A outer s H vs Q E hr h => ?_)
  . obtain ⟨a,ns,k',rfl,_⟩:=h
    rfl
  . obtain ⟨a,ns,k',rfl,hS,h0,q⟩:=h
    refine ⟨_,(@pss_cons _ _ _ _ _ (@ps_if _ _ _ _ _ _ _ _ (@pt_cmpR _ _ _ _ _ _ _ _ op_lt (pv 1) (@pe_callB _ _ _ _ _ _ _ _ _ c_len rfl T.z_len bt_len (@pa_cons _ _ _ _ _ (pv 0) (@pa_nil _) (by rfl)) (by decide) (by decide) (by rfl) (by rfl)) (nomark _)) (@pss_one _ _ _ (@ps_ret _ _ _ _ (@pe_ix _ _ _ _ _ _ _ ix_LT (pv 0) (pv 1) (fun _ _ => rfl)))) (@pss_nil _)) (@pss_one _ _ _ (@ps_ret _ _ _ _ (@pe_int _ _ _ _)))),?_⟩
    try dsimp only [cxK_nox,cxK_of]
    walk_at "go"
    refine r_lenL hS ?_
    walk_at "go"
    refine i_d (fun c => ?_) (fun c => ?_)
    . rw [List.length_map] at c
      obtain ⟨z,_,hz⟩:=pick (ns:=ns) h0 c
      walk_at "go"
      refine r_ixs hS hz ?_
      walk_at "go"
      exact q z
    . walk_at "go"
      exact q 0
set_option maxHeartbeats 0 in
theorem ok_number (T:Bl mg) (d:Df K mg "_law_number" s_number ["_law_script","_law_k"]  ) (o_cell_at:Okf P w K mg base k "_law_cell_at" ["_law_script","_law_k"] (spCell K)):Okf P w K mg base (k + 1) "_law_number" ["_law_script","_law_k"] (spNumW K):=by
  refine Okf.of d sc_number (fun vs H Q E h => ?_) (fun f cdv A outer s H vs Q E hr h => ?_)
  . obtain ⟨a,ns,k',rfl,_⟩:=h
    rfl
  . obtain ⟨a,ns,k',rfl,hS,h0,hk,q⟩:=h
    refine ⟨_,(@pss_cons _ _ _ _ _ (@ps_set _ _ (i:=2) _ _ _ _ sc_number.nd rfl (by first | exact Or.inl rfl | exact Or.inr rfl) (@pe_callO _ _ _ _ _ _ _ _ _ _ o_cell_at hr rfl (@pa_cons _ _ _ _ _ (pv 0) (@pa_cons _ _ _ _ _ (pv 1) (@pa_nil _) (by rfl)) (by rfl)) (by decide) (by rfl) (by rfl)) (by rfl) (by first | exact .inl rfl | exact .inr rfl | assumption)) (@pss_cons _ _ _ _ _ (@ps_if _ _ _ _ _ _ _ _ (@PW.pt _ _ _ (@pw_and _ _ _ _ _ _ _ (@pt_cmpR _ _ _ _ _ _ _ _ (op_eqA hr.units) (@pe_op _ _ _ _ _ _ _ _ op_mod (@pe_callO _ _ _ _ _ _ _ _ _ _ o_cell_at hr rfl (@pa_cons _ _ _ _ _ (pv 0) (@pa_cons _ _ _ _ _ (@pe_int _ _ _ _) (@pa_nil _) (by rfl)) (by rfl)) (by decide) (by rfl) (by rfl)) (@pe_int _ _ _ _)) (@pe_int _ _ _ _) (nomark _)) (@pw_and1 _ _ _ _ (@pt_cmpR _ _ _ _ _ _ _ _ op_ge (pv 2) (@pe_op _ _ _ _ _ _ _ _ op_pow (@pe_int _ _ _ _) (@pe_int _ _ _ _)) (nomark _))))) (@pss_one _ _ _ (@ps_ret _ _ _ _ (pv 2))) (@pss_nil _)) (@pss_cons _ _ _ _ _ (@ps_set _ _ (i:=3) _ _ _ _ sc_number.nd rfl (by first | exact Or.inl rfl | exact Or.inr rfl) (@pe_op _ _ _ _ _ _ _ _ op_mod (@pe_op _ _ _ _ _ _ _ _ op_mulB (@pe_op _ _ _ _ _ _ _ _ op_addA (@pe_op _ _ _ _ _ _ _ _ op_addA (@pe_op _ _ _ _ _ _ _ _ op_mod (pv 2) (@pe_int _ _ _ _)) (@pe_op _ _ _ _ _ _ _ _ op_mulB (@pe_op _ _ _ _ _ _ _ _ op_mulB (@pe_int _ _ _ _) (pv 1)) (pv 1))) (@pe_int _ _ _ _)) (@pe_int _ _ _ _)) (@pe_int _ _ _ _)) (by rfl) (by first | exact .inl rfl | exact .inr rfl | assumption)) (@pss_cons _ _ _ _ _ (@ps_set _ _ (i:=4) _ _ _ _ sc_number.nd rfl (by first | exact Or.inl rfl | exact Or.inr rfl) (@pe_op _ _ _ _ _ _ _ _ op_mod (@pe_op _ _ _ _ _ _ _ _ op_mulB (pv 3) (@pe_op _ _ _ _ _ _ _ _ op_addA (@pe_op _ _ _ _ _ _ _ _ op_mod (pv 3) (@pe_int _ _ _ _)) (@pe_int _ _ _ _))) (@pe_int _ _ _ _)) (by rfl) (by first | exact .inl rfl | exact .inr rfl | assumption)) (@pss_cons _ _ _ _ _ (@ps_set _ _ (i:=5) _ _ _ _ sc_number.nd rfl (by first | exact Or.inl rfl | exact Or.inr rfl) (@pe_op _ _ _ _ _ _ _ _ op_mod (@pe_op _ _ _ _ _ _ _ _ op_mulB (@pe_op _ _ _ _ _ _ _ _ op_addA (pv 4) (@pe_op _ _ _ _ _ _ _ _ op_mulB (@pe_op _ _ _ _ _ _ _ _ op_mulB (@pe_int _ _ _ _) (pv 1)) (pv 1))) (@pe_op _ _ _ _ _ _ _ _ op_addA (@pe_op _ _ _ _ _ _ _ _ op_mod (pv 3) (@pe_int _ _ _ _)) (@pe_int _ _ _ _))) (@pe_int _ _ _ _)) (by rfl) (by first | exact .inl rfl | exact .inr rfl | assumption)) (@pss_cons _ _ _ _ _ (@ps_set _ _ (i:=6) _ _ _ _ sc_number.nd rfl (by first | exact Or.inl rfl | exact Or.inr rfl) (@pe_op _ _ _ _ _ _ _ _ op_addA (@pe_op _ _ _ _ _ _ _ _ op_mulB (@pe_op _ _ _ _ _ _ _ _ op_addA (@pe_op _ _ _ _ _ _ _ _ op_mulB (pv 3) (@pe_int _ _ _ _)) (pv 4)) (@pe_int _ _ _ _)) (pv 5)) (by rfl) (by first | exact .inl rfl | exact .inr rfl | assumption)) (@pss_cons _ _ _ _ _ (@ps_if _ _ _ _ _ _ _ _ (@pt_cmpR _ _ _ _ _ _ _ _ (op_eqA hr.units) (@pe_op _ _ _ _ _ _ _ _ op_mod (@pe_callO _ _ _ _ _ _ _ _ _ _ o_cell_at hr rfl (@pa_cons _ _ _ _ _ (pv 0) (@pa_cons _ _ _ _ _ (@pe_int _ _ _ _) (@pa_nil _) (by rfl)) (by rfl)) (by decide) (by rfl) (by rfl)) (@pe_int _ _ _ _)) (@pe_int _ _ _ _) (nomark _)) (@pss_one _ _ _ (@ps_ret _ _ _ _ (@pe_op _ _ _ _ _ _ _ _ op_addA (@pe_op _ _ _ _ _ _ _ _ op_mulB (pv 6) (@pe_op _ _ _ _ _ _ _ _ op_pow (@pe_int _ _ _ _) (@pe_int _ _ _ _))) (@pe_op _ _ _ _ _ _ _ _ op_mod (pv 2) (@pe_op _ _ _ _ _ _ _ _ op_pow (@pe_int _ _ _ _) (@pe_int _ _ _ _)))))) (@pss_nil _)) (@pss_one _ _ _ (@ps_ret _ _ _ _ (pv 6)))))))))),?_⟩
    try dsimp only [cxK_nox,cxK_of]
    walk_at "go"
    refine ⟨a,ns,k',rfl,hS,h0,fun c => ?_⟩
    walk_at "go"
    refine ⟨a,ns,0,rfl,hS,Int.le_refl 0,fun c0 => ?_⟩
    walk_at "go"
    refine i_d (fun e1 => ?_) (fun e1 => ?_)
    . walk_at "go"
      refine i_d (fun e2 => ?_) (fun e2 => ?_)
      . walk_at "go"
        exact q _ (by omega)
      . walk_at "go"
        refine ⟨a,ns,0,rfl,hS,Int.le_refl 0,fun c1 => ?_⟩
        walk_at "go"
        have hone:∀ z:Int,0 <= z % 2147483629:=fun z => Int.emod_nonneg z (by decide)
        have htwo:∀ z:Int,0 <= z % 2147483587:=fun z => Int.emod_nonneg z (by decide)
        have hthr:∀ z:Int,0 <= z % 2147483543:=fun z => Int.emod_nonneg z (by decide)
        have h1:=hone ((c % 2147483647 + 7919 * k' * k' + 11) * 69621)
        generalize (c % 2147483647 + 7919 * k' * k' + 11) * 69621 % 2147483629 = one at h1 ⊢
        have h2:=htwo (one * (one % 65521 + 48271))
        generalize one * (one % 65521 + 48271) % 2147483587 = two at h2 ⊢
        have h3:=hthr ((two + 40692 * k' * k') * (one % 7919 + 39373))
        generalize (two + 40692 * k' * k') * (one % 7919 + 39373) % 2147483543 = thr at h3 ⊢
        refine i_d (fun e3 => ?_) (fun e3 => ?_)
        . walk_at "go"
          exact q _ (nn_b (nn_a h1 h2 h3))
        . walk_at "go"
          exact q _ (nn_a h1 h2 h3)
    . walk_at "go"
      refine ⟨a,ns,0,rfl,hS,Int.le_refl 0,fun c1 => ?_⟩
      walk_at "go"
      have hone:∀ z:Int,0 <= z % 2147483629:=fun z => Int.emod_nonneg z (by decide)
      have htwo:∀ z:Int,0 <= z % 2147483587:=fun z => Int.emod_nonneg z (by decide)
      have hthr:∀ z:Int,0 <= z % 2147483543:=fun z => Int.emod_nonneg z (by decide)
      have h1:=hone ((c % 2147483647 + 7919 * k' * k' + 11) * 69621)
      generalize (c % 2147483647 + 7919 * k' * k' + 11) * 69621 % 2147483629 = one at h1 ⊢
      have h2:=htwo (one * (one % 65521 + 48271))
      generalize one * (one % 65521 + 48271) % 2147483587 = two at h2 ⊢
      have h3:=hthr ((two + 40692 * k' * k') * (one % 7919 + 39373))
      generalize (two + 40692 * k' * k') * (one % 7919 + 39373) % 2147483543 = thr at h3 ⊢
      refine i_d (fun e3 => ?_) (fun e3 => ?_)
      . walk_at "go"
        exact q _ (nn_b (nn_a h1 h2 h3))
      . walk_at "go"
        exact q _ (nn_a h1 h2 h3)
theorem ok_lowest (T:Bl mg) (d:Df K mg "_law_lowest" s_lowest ["_law_top","_law_bottom"]  ):Okf P w K mg base (k + 1) "_law_lowest" ["_law_top","_law_bottom"] spLowest:=by
  refine Okf.of d sc_lowest (fun vs H Q E h => ?_) (fun f cdv A outer s H vs Q E hr h => ?_)
  . obtain ⟨t,b,rfl,_⟩:=h
    rfl
  . obtain ⟨t,b,rfl,hb,hs1,hs2,q⟩:=h
    refine ⟨_,(@pss_cons _ _ _ _ _ (@ps_set _ _ (i:=2) _ _ _ _ sc_lowest.nd rfl (by first | exact Or.inl rfl | exact Or.inr rfl) (@pe_callB _ _ _ _ _ _ _ _ _ c_abs rfl T.z_abs bt_abs (@pa_cons _ _ _ _ _ (pv 0) (@pa_nil _) (by rfl)) (by decide) (by decide) (by rfl) (by rfl)) (by rfl) (by first | exact .inl rfl | exact .inr rfl | assumption)) (@pss_cons _ _ _ _ _ (@ps_set _ _ (i:=3) _ _ _ _ sc_lowest.nd rfl (by first | exact Or.inl rfl | exact Or.inr rfl) (pv 1) (by rfl) (by first | exact .inl rfl | exact .inr rfl | assumption)) (@pss_cons _ _ _ _ _ (@ps_while _ _ _ _ _ _ PassesOwn.never (@pt_cmpR _ _ _ _ _ _ _ _ (op_neA hr.units) (pv 3) (@pe_int _ _ _ _) (nomark _)) (@pss_one _ _ _ (@ps_par _ _ (i:=2) (j:=3) _ _ _ _ _ _ _ _ _ _ _ rfl sc_lowest.nd rfl rfl (by decide) rfl rfl (@pa_cons _ _ _ _ _ (pv 3) (@pa_cons _ _ _ _ _ (@pe_op _ _ _ _ _ _ _ _ op_mod (pv 2) (pv 3)) (@pa_nil _) (by rfl)) (by rfl)) rfl (by rfl)))) (@pss_one _ _ _ (@ps_ret _ _ _ _ (@pe_tup _ _ _ _ _ (@pa_cons _ _ _ _ _ (@pe_op _ _ _ _ _ _ _ _ op_fdivB (pv 0) (pv 2)) (@pa_cons _ _ _ _ _ (@pe_op _ _ _ _ _ _ _ _ op_fdivB (pv 1) (pv 2)) (@pa_nil _) (by rfl)) (by rfl)))))))),?_⟩
    try dsimp only [cxK_nox,cxK_of]
    walk_at "go"
    refine while_by (fun σ H' => ∃ one other:Int,σ = [some (.int t),some (.int b),some (.int one),some (.int other)] /\ H' = H /\ 0 <= one /\ 0 <= other /\ Int.gcd one other = Int.gcd t b)
      (fun σ _ => match σ with | [_,_,_,some (.int z)] => z.toNat | _ => 0) ⟨_,_,rfl,rfl,by split <;> omega,by omega,?_⟩ ?_ ?_
    . have e:∀ z:Int,(if z < 0 then -z else z) = (z.natAbs:Int):=fun z => by split <;> omega
      rw [e]
      simp [Int.gcd]
    . rintro σ H' ⟨one,other,rfl,rfl,h1,h2,hg⟩
      walk_at "go"
      refine i_d (fun c => ?_) (fun c => ?_)
      . subst c
        have e1:one = (Int.gcd t b:Int):=by rw [← hg,Int.gcd_zero_right]; omega
        have hb0:b ≠ 0:=by omega
        have hgb:(Int.gcd t b:Int).natAbs <= b.natAbs:=by
          have:=Nat.le_of_dvd (by omega) (Int.gcd_dvd_natAbs_right t b)
          omega
        subst e1
        walk_at "go"
        have es:(Int.gcd t b:Int) = sg t b:=by unfold sg; rw [if_neg (by omega)]
        rw [es]
        have hc:∀ z,CDivB z (sg t b):=fun _ => ⟨sg_ne hb0,Sm.le (by rw [sg_natAbs]; omega) hs2⟩
        refine r_fdiv (hc _) ?_
        walk_at "go"
        refine r_fdiv (hc _) ?_
        walk_at "go"
        refine r_tupK fun p hp => ?_
        walk_at "go"
        exact q p hp
      . walk_at "go"
        refine ⟨⟨_,_,rfl,rfl,h2,Int.emod_nonneg _ (by omega),by rw [gcd_step (by omega)]; exact hg⟩,?_⟩
        have:=Int.emod_lt_of_pos one (show 0 < other by omega)
        show (one % other).toNat < other.toNat
        omega
    . intro σ H Q Q' hQ h
      obtain ⟨v,e1,h⟩:=h
      rcases h with ⟨e2,b',e3,q'⟩ | ⟨d,e,e2,e3,e4,e5,b',e6,q'⟩
      . exact ⟨v,e1,.inl ⟨e2,b',e3,hQ _ _ q'⟩⟩
      . exact ⟨v,e1,.inr ⟨d,e,e2,e3,e4,e5,b',e6,hQ _ _ q'⟩⟩
set_option maxHeartbeats 0 in
theorem ok_names (T:Bl mg) (d:Df K mg "_law_names" s_names ["_law_script"]  ) (o_number:Okf P w K mg base k "_law_number" ["_law_script","_law_k"] (spNumW K)):Okf P w K mg base (k + 1) "_law_names" ["_law_script"] (spNames74 K):=by
  refine Okf.of d sc_names (fun vs H Q E h => ?_) (fun f cdv A outer s H vs Q E hr h => ?_)
  . obtain ⟨a,ns,rfl,_⟩:=h
    rfl
  . obtain ⟨a,ns,rfl,hS,q⟩:=h
    refine ⟨_,(@pss_cons _ _ _ _ _ (@ps_set _ _ (i:=1) _ _ _ _ sc_names.nd rfl (by first | exact Or.inl rfl | exact Or.inr rfl) (@pe_str _ _ _ _) (by rfl) (by first | exact .inl rfl | exact .inr rfl | assumption)) (@pss_cons _ _ _ _ _ (@ps_set _ _ (i:=2) _ _ _ _ sc_names.nd rfl (by first | exact Or.inl rfl | exact Or.inr rfl) (@pe_callO _ _ _ _ _ _ _ _ _ _ o_number hr rfl (@pa_cons _ _ _ _ _ (pv 0) (@pa_cons _ _ _ _ _ (@pe_int _ _ _ _) (@pa_nil _) (by rfl)) (by rfl)) (by decide) (by rfl) (by rfl)) (by rfl) (by first | exact .inl rfl | exact .inr rfl | assumption)) (@pss_cons _ _ _ _ _ (@ps_set _ _ (i:=3) _ _ _ _ sc_names.nd rfl (by first | exact Or.inl rfl | exact Or.inr rfl) (@pe_slice _ _ _ _ _ _ _ _ _ _ sl_str (pv 1) (@po_none _) (@po_some _ _ _ (@pe_op _ _ _ _ _ _ _ _ op_mod (pv 2) (@pe_int _ _ _ _)))) (by rfl) (by first | exact .inl rfl | exact .inr rfl | assumption)) (@pss_cons _ _ _ _ _ (@ps_set _ _ (i:=4) _ _ _ _ sc_names.nd rfl (by first | exact Or.inl rfl | exact Or.inr rfl) (@pe_op _ _ _ _ _ _ _ _ op_mulS (@pe_ix _ _ _ _ _ _ _ ix_LT (pv 1) (@pe_op _ _ _ _ _ _ _ _ op_mod (@pe_op _ _ _ _ _ _ _ _ op_fdivB (pv 2) (@pe_int _ _ _ _)) (@pe_int _ _ _ _)) (fun _ _ => rfl)) (@pe_op _ _ _ _ _ _ _ _ op_mod (@pe_op _ _ _ _ _ _ _ _ op_fdivB (pv 2) (@pe_int _ _ _ _)) (@pe_int _ _ _ _))) (by rfl) (by first | exact .inl rfl | exact .inr rfl | assumption)) (@pss_one _ _ _ (@ps_ret _ _ _ _ (@pe_comp _ _ _ _ _ _ _ _ _ _ _ _ _ _ (@comp_ck _ _ (sc:=defScope s_names) (N:=["_law_script","_law_letters","_law_number_here","_law_before","_law_behind"]) (tn:=["_law_k"]) (names:=["_law_number_here","_law_letters","_law_behind","_law_before"]) (is:=[2,1,4,3]) rfl rfl (by decide +kernel) (by decide +kernel) rfl (by decide +kernel) rfl (by decide +kernel) (by decide +kernel) (by decide +kernel)) rfl (@pi_range1 _ _ _ _ _ _ rfl T.z_range (@pa_cons _ _ _ _ _ (@pe_int _ _ _ _) (@pa_nil _) (by rfl)) (by rfl)) (fun _ _ _ _ => (@pg_name _ _ (i:=0) _ (show (["_law_k","_law_number_here","_law_letters","_law_behind","_law_before"]:List Str).Nodup by decide +kernel) rfl (Or.inl rfl) (Or.inr rfl))) (fun _ _ _ _ => (@pe_op _ _ _ _ _ _ _ _ op_addAc (@pe_op _ _ _ _ _ _ _ _ op_addAc (pv 4) (@pe_ix _ _ _ _ _ _ _ ix_LTc (pv 2) (@pe_op _ _ _ _ _ _ _ _ op_mod (@pe_op _ _ _ _ _ _ _ _ op_addAc (@pe_op _ _ _ _ _ _ _ _ op_fdivB (pv 1) (@pe_int _ _ _ _)) (@pe_op _ _ _ _ _ _ _ _ op_mulB (@pe_int _ _ _ _) (pv 0))) (@pe_int _ _ _ _)) (fun _ _ => rfl))) (pv 3))) (fun _ _ _ _ => (@pts_none _)) (by intro _; rfl)))))))),?_⟩
    try dsimp only [cxK_nox,cxK_of]
    have h26:abc.length <= 100000:=by rw [abc_len]; decide
    walk_at "go"
    refine ⟨a,ns,1,rfl,hS,by decide,by decide,fun r hr => ?_⟩
    walk_at "go"
    obtain ⟨i,hi,ei⟩:∃ i:Nat,i < 4 /\ r % 4 = i:=⟨(r % 4).toNat,by omega,by omega⟩
    rw [ei]
    refine r_slSe h26 ?_
    obtain ⟨lb,Lb⟩:=sl4 i hi
    generalize Txt.slice abc none (some (i:Int)) = bef at lb Lb ⊢
    walk_at "go"
    obtain ⟨j,hj,ej⟩:∃ j:Nat,j < 26 /\ r.fdiv 4 % 26 = (j:Int):=⟨(r.fdiv 4 % 26).toNat,by omega,by omega⟩
    rw [ej]
    refine r_ixS h26 (abc_at j hj) ?_
    walk_at "go"
    have m0:0 <= r.fdiv 104 % 5 /\ r.fdiv 104 % 5 < 5:=by omega
    generalize r.fdiv 104 % 5 = mm at m0 ⊢
    have l1:∀ c:Nat,(⟨#[c]⟩:Str).length = 1:=fun _ => rfl
    refine ⟨_,_,rfl,rfl,m0.1,by omega,by rw [l1]; decide,fun beh hb => ?_⟩
    obtain ⟨lh,Lh⟩:=rep_let hb (l1 _) (LetS.one (by omega) (by omega))
    clear hb
    walk_at "go"
    refine ⟨8,rfl,by decide,by decide,?_⟩
    refine r_compR (n:=8) (by omega) (fun acc k ys G => Kp acc H G /\ ys = ((List.range k).map (nmAt bef beh (r.fdiv 520))).map V.str) ?_ ?_ ?_
    . intro acc h0
      exact ⟨Kp.new h0,rfl⟩
    . rintro acc k ys G h0 hk hyl hG ⟨kp,rfl⟩
      walk_at "go"
      obtain ⟨o,ho,eo⟩:∃ j:Nat,j < 26 /\ (r.fdiv 520 + 3 * (0 + (k:Int))) % 26 = (j:Int):=⟨((r.fdiv 520 + 3 * (0 + (k:Int))) % 26).toNat,by omega,by omega⟩
      have e1:nmAt bef beh (r.fdiv 520) k = bef ++ ⟨#[97 + o]⟩ ++ beh:=by
        unfold nmAt
        rw [show ((r.fdiv 520 + 3 * (k:Int)) % 26).toNat = o by rw [Int.zero_add] at eo; omega]
      rw [eo]
      refine r_ixS h26 (abc_at o ho) ?_
      refine r_addS (by rw [l1]; omega) ?_
      walk_at "go"
      refine r_addS (by rw [len_app,l1]; omega) ?_
      refine c_next hk hyl hG ⟨kp.trans Kp.upd,?_⟩
      rw [List.range_succ,List.map_append,List.map_append]
      show _ = _ ++ [V.str (nmAt bef beh (r.fdiv 520) k)]
      rw [e1]
    rintro acc ys G h0 hG hyl ⟨kp,rfl⟩
    walk_at "go"
    refine q acc G _ h0 (fun b o h => kp _ _ (ne_of_none h h0) h) hG (by simp) (fun s hs => ?_) (nm_nd _ _ _)
    obtain ⟨k,hk,rfl⟩:=List.mem_map.mp hs
    have ho:((r.fdiv 520 + 3 * (k:Int)) % 26).toNat < 26:=by omega
    unfold nmAt
    exact partB_of (by rw [len_app,len_app,l1]; omega) (by rw [len_app,len_app,l1]; omega) ((Lb.app (LetS.one (by omega) (by omega))).app Lh)
set_option maxHeartbeats 0 in
theorem ok_post (T:Bl mg) (d:Df K mg "_law_post" s_post ["_law_number_here","_law_names_here"]  ):Okf P w K mg base (k + 1) "_law_post" ["_law_number_here","_law_names_here"] spPost73:=by
  refine Okf.of d sc_post (fun vs H Q E h => ?_) (fun f cdv A outer s H vs Q E hr h => ?_)
  . obtain ⟨c,ln,U,rfl,_⟩:=h
    rfl
  . obtain ⟨c,ln,U,rfl,hc,hln,hUl,hU,q⟩:=h
    refine ⟨_,(@pss_cons _ _ _ _ _ (@ps_set _ _ (i:=2) _ _ _ _ sc_post.nd rfl (by first | exact Or.inl rfl | exact Or.inr rfl) (@pe_op _ _ _ _ _ _ _ _ op_mod (pv 0) (@pe_int _ _ _ _)) (by rfl) (by first | exact .inl rfl | exact .inr rfl | assumption)) (@pss_cons _ _ _ _ _ (@ps_set _ _ (i:=3) _ _ _ _ sc_post.nd rfl (by first | exact Or.inl rfl | exact Or.inr rfl) (@pe_op _ _ _ _ _ _ _ _ op_mod (@pe_op _ _ _ _ _ _ _ _ op_fdivB (pv 0) (@pe_int _ _ _ _)) (@pe_int _ _ _ _)) (by rfl) (by first | exact .inl rfl | exact .inr rfl | assumption)) (@pss_cons _ _ _ _ _ (@ps_if _ _ _ _ _ _ _ _ (@pt_cmpR _ _ _ _ _ _ _ _ op_lt (pv 2) (@pe_int _ _ _ _) (nomark _)) (@pss_one _ _ _ (@ps_ret _ _ _ _ (@pe_ix _ _ _ _ _ _ _ ix_LT (pv 1) (pv 3) (fun _ _ => rfl)))) (@pss_nil _)) (@pss_cons _ _ _ _ _ (@ps_if _ _ _ _ _ _ _ _ (@pt_cmpR _ _ _ _ _ _ _ _ (op_eqA hr.units) (pv 2) (@pe_int _ _ _ _) (nomark _)) (@pss_one _ _ _ (@ps_ret _ _ _ _ (@pe_op _ _ _ _ _ _ _ _ op_addA (@pe_op _ _ _ _ _ _ _ _ op_addA (@pe_ix _ _ _ _ _ _ _ ix_LT (pv 1) (pv 3) (fun _ _ => rfl)) (@pe_str _ _ _ _)) (@pe_ix _ _ _ _ _ _ _ ix_LT (pv 1) (@pe_op _ _ _ _ _ _ _ _ op_mod (@pe_op _ _ _ _ _ _ _ _ op_fdivB (pv 0) (@pe_int _ _ _ _)) (@pe_int _ _ _ _)) (fun _ _ => rfl))))) (@pss_nil _)) (@pss_cons _ _ _ _ _ (@ps_setC _ _ _ _ _ _ _ _ _ _ _ _ _ _ (i:=4) _ _ _ sc_post.nd rfl (by first | exact Or.inl rfl | exact Or.inr rfl) (@comp_ck _ _ (sc:=defScope s_post) (N:=["_law_number_here","_law_names_here","_law_kind","_law_first","_law_more"]) (tn:=["_law_k"]) (names:=["_law_number_here","_law_names_here","_law_first"]) (is:=[0,1,3]) rfl rfl (by decide +kernel) (by decide +kernel) rfl (by decide +kernel) rfl (by decide +kernel) (by decide +kernel) (by decide +kernel)) rfl (@pi_range1 _ _ _ _ _ _ rfl T.z_range (@pa_cons _ _ _ _ _ (@pe_op _ _ _ _ _ _ _ _ op_addA (@pe_int _ _ _ _) (@pe_op _ _ _ _ _ _ _ _ op_mod (@pe_op _ _ _ _ _ _ _ _ op_fdivB (pv 0) (@pe_int _ _ _ _)) (@pe_int _ _ _ _))) (@pa_nil _) (by rfl)) (by rfl)) (fun _ _ _ _ => (@pg_name _ _ (i:=0) _ (show (["_law_k","_law_number_here","_law_names_here","_law_first"]:List Str).Nodup by decide +kernel) rfl (Or.inl rfl) (Or.inr rfl))) (fun _ _ _ _ => (@pe_ix _ _ _ _ _ _ _ ix_LTc (pv 2) (@pe_op _ _ _ _ _ _ _ _ op_mod (@pe_op _ _ _ _ _ _ _ _ op_addAc (@pe_op _ _ _ _ _ _ _ _ op_addAc (pv 3) (@pe_int _ _ _ _)) (@pe_op _ _ _ _ _ _ _ _ op_mulB (@pe_op _ _ _ _ _ _ _ _ op_mod (@pe_op _ _ _ _ _ _ _ _ op_fdivB (pv 1) (@pe_int _ _ _ _)) (@pe_int _ _ _ _)) (pv 0))) (@pe_int _ _ _ _)) (fun _ _ => rfl))) (fun _ _ _ _ => (@pts_none _)) (by intro _; rfl) (by rfl) (by first | exact .inl rfl | exact .inr rfl | assumption)) (@pss_one _ _ _ (@ps_ret _ _ _ _ (@pe_bm _ _ _ _ _ _ _ _ _ _ _ _ PySem.F.plainAttrs_str PySem.F.slot_str_join PySem.F.type_str_join mt_join (@pe_str _ _ _ _) (@pa_cons _ _ _ _ _ (@pe_op _ _ _ _ _ _ _ _ op_addA (@pe_lst _ _ _ _ (@pa_cons _ _ _ _ _ (@pe_ix _ _ _ _ _ _ _ ix_LT (pv 1) (pv 3) (fun _ _ => rfl)) (@pa_nil _) (by rfl))) (pv 4)) (@pa_nil _) (by rfl)) (by rfl) (by rfl) (by rfl) (by rfl) (by rfl))))))))),?_⟩
    try dsimp only [cxK_nox,cxK_of]
    have ep:(".":Str) = ⟨#[46]⟩:=by decide +kernel
    have one:∀ {s:Str},s ∈ U -> PostS s:=fun {s} hs => by
      have:=join_post (x:=s) (r:=[]) (fun p hp => by rw [List.mem_singleton.mp hp]; exact hU s hs) (by decide)
      exact this
    walk_at "go"
    have i0:0 <= c.fdiv 5 % 8 /\ c.fdiv 5 % 8 < 8:=by omega
    generalize c.fdiv 5 % 8 = fi at i0 ⊢
    obtain ⟨s1,m1,e1⟩:=pickS' (nm:=U) i0.1 (by omega)
    refine i_d (fun c1 => ?_) (fun c1 => ?_)
    . walk_at "go"
      refine r_ixl hln e1 ?_
      walk_at "go"
      exact q _ _ (Same.refl _) (one m1)
    walk_at "go"
    refine i_d (fun c2 => ?_) (fun c2 => ?_)
    . walk_at "go"
      refine r_ixl hln e1 ?_
      walk_at "go"
      obtain ⟨p1,p2,_⟩:=part_facts (hU s1 m1)
      rw [ep]
      have l1:(⟨#[46]⟩:Str).length = 1:=rfl
      refine r_addS (by rw [l1]; omega) ?_
      walk_at "go"
      have i1:0 <= c.fdiv 40 % 8 /\ c.fdiv 40 % 8 < 8:=by omega
      generalize c.fdiv 40 % 8 = fj at i1 ⊢
      obtain ⟨s2,m2,e2⟩:=pickS' (nm:=U) i1.1 (by omega)
      refine r_ixl hln e2 ?_
      obtain ⟨p3,p4,_⟩:=part_facts (hU s2 m2)
      refine r_addS (by rw [len_app,l1]; omega) ?_
      walk_at "go"
      refine q _ _ (Same.refl _) ?_
      have:=join_post (x:=s1) (r:=[s2]) (fun p hp => by
        rcases List.mem_cons.mp hp with rfl | hp
        . exact hU _ m1
        . rw [List.mem_singleton.mp hp]; exact hU _ m2) (show 1 <= 3 by decide)
      rw [show s1 ++ ⟨#[46]⟩ ++ s2 = Str.join ⟨#[46]⟩ [s1,s2] from by
        show Str.mk _ = Str.mk _
        congr 1]
      exact this
    walk_at "go"
    have n0:0 <= c.fdiv 280 % 3 /\ c.fdiv 280 % 3 < 3:=by omega
    generalize c.fdiv 280 % 3 = mm at n0 ⊢
    refine r_rng1K (by omega) (by omega) ?_
    refine r_compR (n:=(1 + mm).toNat) (by omega) (fun acc k ys G => Kp acc H G /\ ∃ r:List Str,ys = r.map V.str /\ ∀ s ∈ r,s ∈ U) ?_ ?_ ?_
    . intro acc h0
      exact ⟨Kp.new h0,[],rfl,fun _ h => nomatch h⟩
    . rintro acc k ys G h0 hk hyl hG ⟨kp,r,rfl,hr'⟩
      walk_at "go"
      obtain ⟨s2,m2,e2⟩:=pickS' (nm:=U) (i:=(fi + 1 + c.fdiv 40 % 7 * (0 + (k:Int))) % 8) (Int.emod_nonneg _ (by decide)) (by have:=Int.emod_lt_of_pos (fi + 1 + c.fdiv 40 % 7 * (0 + (k:Int))) (show (0:Int) < 8 by decide); omega)
      refine r_ixl (kp _ _ (ne_of_none hln h0) hln) e2 ?_
      refine c_next hk hyl hG ⟨kp.trans Kp.upd,r ++ [s2],by simp,fun s hs => ?_⟩
      rcases List.mem_append.mp hs with h | h
      . exact hr' s h
      . rw [List.mem_singleton.mp h]
        exact m2
    rintro acc ys G h0 hG hyl ⟨kp,r,rfl,hr'⟩
    rw [List.length_map] at hyl
    have sG:Same H G:=fun b o h => kp _ _ (ne_of_none h h0) h
    walk_at "go"
    refine r_ixl (sG _ _ hln) e1 ?_
    walk_at "go"
    refine r_lstK fun l2 hl2 => ?_
    have s2:=Same.new (o:=.lst [.str s1]) hl2
    walk_at "go"
    refine a_lst upd_same (s2 _ _ hG) (by rw [List.length_map]; show 1 + _ <= _; omega) fun l3 hl3 => ?_
    rw [show ([V.str s1] ++ r.map V.str) = (s1 :: r).map V.str from rfl]
    walk_at "go"
    rw [ep]
    have hall:∀ p ∈ s1 :: r,partB p = true:=fun p hp => (List.mem_cons.mp hp).elim (fun e => by rw [e]; exact hU _ m1) fun h => hU _ (hr' p h)
    have hsum:=sum_le (cs:=s1 :: r) fun c hc => (part_facts (hall c hc)).2.1
    rw [List.length_cons] at hsum
    refine ⟨_,l3,_,rfl,rfl,upd_same,?_,?_⟩
    . show _ + (s1 :: r).length * 1 <= _
      rw [List.length_cons]
      omega
    walk_at "go"
    exact q _ _ ((sG.trans s2).trans (Same.new hl3)) (join_post hall (by omega))
set_option maxHeartbeats 0 in
theorem ok_time (T:Bl mg) (d:Df K mg "_law_time" s_time ["_law_number_here"]  ) (o_lowest:Okf P w K mg base k "_law_lowest" ["_law_top","_law_bottom"] spLowest):Okf P w K mg base (k + 1) "_law_time" ["_law_number_here"] spTime73:=by
  refine Okf.of d sc_time (fun vs H Q E h => ?_) (fun f cdv A outer s H vs Q E hr h => ?_)
  . obtain ⟨c,rfl,_⟩:=h
    rfl
  . obtain ⟨c,rfl,hc,q⟩:=h
    refine ⟨_,(@pss_cons _ _ _ _ _ (@ps_set _ _ (i:=1) _ _ _ _ sc_time.nd rfl (by first | exact Or.inl rfl | exact Or.inr rfl) (@pe_ix _ _ _ _ _ _ _ ix_LT (@pe_lst _ _ _ _ (@pa_cons _ _ _ _ _ (@pe_int _ _ _ _) (@pa_cons _ _ _ _ _ (@pe_int _ _ _ _) (@pa_cons _ _ _ _ _ (@pe_int _ _ _ _) (@pa_nil _) (by rfl)) (by rfl)) (by rfl))) (@pe_op _ _ _ _ _ _ _ _ op_mod (pv 0) (@pe_int _ _ _ _)) (fun _ _ => rfl)) (by rfl) (by first | exact .inl rfl | exact .inr rfl | assumption)) (@pss_cons _ _ _ _ _ (@ps_set _ _ (i:=2) _ _ _ _ sc_time.nd rfl (by first | exact Or.inl rfl | exact Or.inr rfl) (@pe_int _ _ _ _) (by rfl) (by first | exact .inl rfl | exact .inr rfl | assumption)) (@pss_cons _ _ _ _ _ (@ps_if _ _ _ _ _ _ _ _ (@pt_cmpR _ _ _ _ _ _ _ _ (op_eqA hr.units) (@pe_op _ _ _ _ _ _ _ _ op_mod (@pe_op _ _ _ _ _ _ _ _ op_fdivB (pv 0) (@pe_int _ _ _ _)) (@pe_int _ _ _ _)) (@pe_int _ _ _ _) (nomark _)) (@pss_one _ _ _ (@ps_set _ _ (i:=2) _ _ _ _ sc_time.nd rfl (by first | exact Or.inl rfl | exact Or.inr rfl) (@pe_op _ _ _ _ _ _ _ _ op_addA (@pe_int _ _ _ _) (@pe_op _ _ _ _ _ _ _ _ op_mod (@pe_op _ _ _ _ _ _ _ _ op_fdivB (@pe_op _ _ _ _ _ _ _ _ op_fdivB (pv 0) (@pe_int _ _ _ _)) (pv 1)) (pv 1))) (by rfl) (by first | exact .inl rfl | exact .inr rfl | assumption))) (@pss_nil _)) (@pss_one _ _ _ (@ps_ret _ _ _ _ (@pe_callO _ _ _ _ _ _ _ _ _ _ o_lowest hr rfl (@pa_cons _ _ _ _ _ (@pe_op _ _ _ _ _ _ _ _ op_addA (@pe_int _ _ _ _) (@pe_op _ _ _ _ _ _ _ _ op_mod (@pe_op _ _ _ _ _ _ _ _ op_fdivB (pv 0) (@pe_int _ _ _ _)) (pv 1))) (@pa_cons _ _ _ _ _ (pv 2) (@pa_nil _) (by rfl)) (by rfl)) (by decide) (by rfl) (by rfl))))))),?_⟩
    try dsimp only [cxK_nox,cxK_of]
    walk_at "go"
    refine r_lstK fun l4 hl4 => ?_
    have s1:=Same.new (o:=.lst [V.int 9,V.int 30,V.int 999999999999]) hl4
    have hl':=upd_same (H:=H) (a:=l4) (o:=.lst [V.int 9,V.int 30,V.int 999999999999])
    generalize L2.upd H l4 (.lst [V.int 9,V.int 30,V.int 999999999999]) = G2 at s1 hl' ⊢
    walk_at "go"
    obtain ⟨t,et,ht⟩:=at3 (x0:=9) (x1:=30) (x2:=999999999999) (fun z => 0 < z /\ z <= 999999999999) (by decide) (by decide) (by decide) (c % 3) (Int.emod_nonneg _ (by decide)) (Int.emod_lt_of_pos _ (by decide))
    refine r_ixl hl' et ?_
    have fin:∀ b:Int,0 < b -> b <= 999999999999 -> ∀ (p:Addr),G2 p = none -> Q (.ref p) (L2.upd G2 p (.tup [.int (lowT (1 + c.fdiv 6 % t) b),.int (lowB (1 + c.fdiv 6 % t) b)])):=fun b h1 h2 p hp => by
      have m0:=Int.emod_nonneg (c.fdiv 6) (show t ≠ 0 by omega)
      have m1:=Int.emod_lt_of_pos (c.fdiv 6) ht.1
      exact q _ _ _ (s1.trans (Same.new hp)) (FrQ.low (by omega) upd_same) (timR_of (by omega) (by omega) h1 h2)
    have sm:∀ {z:Int},0 <= z -> z <= 10 ^ 12 -> Sm 8000 z:=fun {z} h0 h1 => Nat.lt_of_le_of_lt (show z.natAbs <= 10 ^ 12 by omega) (by decide)
    have m0:=Int.emod_nonneg (c.fdiv 6) (show t ≠ 0 by omega)
    have m1:=Int.emod_lt_of_pos (c.fdiv 6) ht.1
    walk_at "go"
    refine i_d (fun c1 => ?_) (fun c1 => ?_)
    . walk_at "go"
      have n0:=Int.emod_nonneg ((c.fdiv 6).fdiv t) (show t ≠ 0 by omega)
      have n1:=Int.emod_lt_of_pos ((c.fdiv 6).fdiv t) ht.1
      generalize (c.fdiv 6).fdiv t % t = bb at n0 n1 ⊢
      exact ⟨_,_,rfl,by omega,sm (by omega) (by omega),sm (by omega) (by omega),fin _ (by omega) (by omega)⟩
    . walk_at "go"
      exact ⟨_,_,rfl,by omega,sm (by omega) (by omega),sm (by omega) (by omega),fin _ (by omega) (by omega)⟩
set_option maxHeartbeats 0 in
theorem ok_posts (T:Bl mg) (d:Df K mg "_law_posts" s_posts ["_law_number_here","_law_names_here","_law_many"]  ) (o_post:Okf P w K mg base k "_law_post" ["_law_number_here","_law_names_here"] spPost73):Okf P w K mg base (k + 1) "_law_posts" ["_law_number_here","_law_names_here","_law_many"] spPosts73:=by
  refine Okf.of d sc_posts (fun vs H Q E h => ?_) (fun f cdv A outer s H vs Q E hr h => ?_)
  . obtain ⟨c,ln,U,m,rfl,_⟩:=h
    rfl
  . obtain ⟨c,ln,U,m,rfl,hc,hln,hUl,hU,hm,q⟩:=h
    refine ⟨_,(@pss_cons _ _ _ _ _ (@ps_set _ _ (i:=3) _ _ _ _ sc_posts.nd rfl (by first | exact Or.inl rfl | exact Or.inr rfl) (@pe_lst _ _ _ _ (@pa_nil _)) (by rfl) (by first | exact .inl rfl | exact .inr rfl | assumption)) (@pss_cons _ _ _ _ _ (@ps_for _ _ _ _ _ _ _ _ PassesOwn.never rfl (@pi_range1 _ _ _ _ _ _ rfl T.z_range (@pa_cons _ _ _ _ _ (pv 2) (@pa_nil _) (by rfl)) (by rfl)) (@pg_name _ _ (i:=4) _ sc_posts.nd rfl (by first | exact Or.inl rfl | exact Or.inr rfl) (by first | exact .inl rfl | exact .inr rfl | assumption)) (@pss_cons _ _ _ _ _ (@ps_expr _ _ _ _ (@pe_bm _ _ _ _ _ _ _ _ _ _ _ _ PySem.F.plainAttrs_list PySem.F.slot_list_append PySem.F.type_list_append mt_append (pv 3) (@pa_cons _ _ _ _ _ (@pe_callO _ _ _ _ _ _ _ _ _ _ o_post hr rfl (@pa_cons _ _ _ _ _ (pv 0) (@pa_cons _ _ _ _ _ (pv 1) (@pa_nil _) (by rfl)) (by rfl)) (by decide) (by rfl) (by rfl)) (@pa_nil _) (by rfl)) (by rfl) (by rfl) (by rfl) (by rfl) (by rfl)) (by rfl)) (@pss_one _ _ _ (@ps_set _ _ (i:=0) _ _ _ _ sc_posts.nd rfl (by first | exact Or.inl rfl | exact Or.inr rfl) (@pe_op _ _ _ _ _ _ _ _ op_fdivB (pv 0) (@pe_int _ _ _ _)) (by rfl) (by first | exact .inl rfl | exact .inr rfl | assumption)))) (by intro _; rfl)) (@pss_one _ _ _ (@ps_ret _ _ _ _ (@pe_callTy _ _ _ _ _ _ _ _ _ call_tuple_of rfl T.z_tuple bt_tuple (@pa_cons _ _ _ _ _ (pv 3) (@pa_nil _) (by rfl)) (by decide) (by decide) (by rfl) (by rfl)))))),?_⟩
    try dsimp only [cxK_nox,cxK_of]
    walk_at "go"
    refine r_lstK fun l0 hl0 => ?_
    walk_at "go"
    refine r_rng1K (by omega) (by omega) ?_
    rw [Int.toNat_natCast]
    refine r_forR (n:=m) (fun i σ G => ∃ (c:Int) (ps:List Str) (o4:Option V),σ = [some (.int c),some (.ref ln),some (.int (m:Int)),some (.ref l0),o4] /\ 0 <= c /\ Kp l0 H G /\ G l0 = some (.lst (ps.map V.str)) /\ ps.length = i /\ ∀ s ∈ ps,PostS s) ⟨c,[],_,rfl,hc,Kp.new hl0,upd_same,rfl,fun _ h => nomatch h⟩ ?_ ?_
    . rintro i σ G hi ⟨c,ps,o4,rfl,hc,kp,hG,hpl,hps⟩
      have hnl:=ne_of_none hln hl0
      walk_at "go"
      refine ⟨c,ln,U,rfl,hc,kp _ _ hnl hln,hUl,hU,fun s G1 s1 ps1 => ?_⟩
      walk_at "go"
      refine r_app (s1 _ _ hG) (by rw [List.length_map]; omega) ?_
      walk_at "go"
      refine ⟨c.fdiv 840,ps ++ [s],_,rfl,fdiv_nn hc (by decide),(kp.trans s1.kp).trans Kp.upd,by rw [List.map_append]; exact upd_same,by rw [List.length_append,hpl]; rfl,fun x hx => ?_⟩
      rcases List.mem_append.mp hx with h | h
      . exact hps x h
      . rw [List.mem_singleton.mp h]
        exact ps1
    rintro σ G ⟨c,ps,o4,rfl,hc,kp,hG,hpl,hps⟩
    walk_at "go"
    refine ⟨l0,_,rfl,.inl ⟨SqL.of hG,fun p hp => ?_⟩⟩
    walk_at "go"
    have sG:Same H G:=fun b o h => kp _ _ (ne_of_none h hl0) h
    exact q p _ ps (sG.trans (Same.new hp)) upd_same hpl hps
set_option maxHeartbeats 0 in
theorem ok_plain (T:Bl mg) (d:Df K mg "_law_plain" s_plain ["_law_number_here","_law_names_here"]  ) (o_time:Okf P w K mg base k "_law_time" ["_law_number_here"] spTime73) (o_posts:Okf P w K mg base k "_law_posts" ["_law_number_here","_law_names_here","_law_many"] spPosts73):Okf P w K mg base (k + 1) "_law_plain" ["_law_number_here","_law_names_here"] spPlain73:=by
  refine Okf.of d sc_plain (fun vs H Q E h => ?_) (fun f cdv A outer s H vs Q E hr h => ?_)
  . obtain ⟨c,ln,U,rfl,_⟩:=h
    rfl
  . obtain ⟨c,ln,U,rfl,hc,hln,hUl,hU,q⟩:=h
    refine ⟨_,(@pss_cons _ _ _ _ _ (@ps_set _ _ (i:=2) _ _ _ _ sc_plain.nd rfl (by first | exact Or.inl rfl | exact Or.inr rfl) (@pe_op _ _ _ _ _ _ _ _ op_mod (pv 0) (@pe_int _ _ _ _)) (by rfl) (by first | exact .inl rfl | exact .inr rfl | assumption)) (@pss_cons _ _ _ _ _ (@ps_set _ _ (i:=3) _ _ _ _ sc_plain.nd rfl (by first | exact Or.inl rfl | exact Or.inr rfl) (@pe_ix _ _ _ _ _ _ _ ix_LT (@pe_lst _ _ _ _ (@pa_cons _ _ _ _ _ (@pe_int _ _ _ _) (@pa_cons _ _ _ _ _ (@pe_int _ _ _ _) (@pa_cons _ _ _ _ _ (@pe_int _ _ _ _) (@pa_cons _ _ _ _ _ (@pe_int _ _ _ _) (@pa_cons _ _ _ _ _ (@pe_int _ _ _ _) (@pa_nil _) (by rfl)) (by rfl)) (by rfl)) (by rfl)) (by rfl))) (@pe_op _ _ _ _ _ _ _ _ op_mod (@pe_op _ _ _ _ _ _ _ _ op_fdivB (pv 0) (@pe_int _ _ _ _)) (@pe_int _ _ _ _)) (fun _ _ => rfl)) (by rfl) (by first | exact .inl rfl | exact .inr rfl | assumption)) (@pss_cons _ _ _ _ _ (@ps_if _ _ _ _ _ _ _ _ (@pt_cmpR _ _ _ _ _ _ _ _ (op_eqA hr.units) (pv 2) (@pe_int _ _ _ _) (nomark _)) (@pss_one _ _ _ (@ps_set _ _ (i:=3) _ _ _ _ sc_plain.nd rfl (by first | exact Or.inl rfl | exact Or.inr rfl) (@pe_int _ _ _ _) (by rfl) (by first | exact .inl rfl | exact .inr rfl | assumption))) (@pss_nil _)) (@pss_cons _ _ _ _ _ (@ps_if _ _ _ _ _ _ _ _ (@pt_cmpR _ _ _ _ _ _ _ _ (op_eqA hr.units) (pv 2) (@pe_int _ _ _ _) (nomark _)) (@pss_one _ _ _ (@ps_set _ _ (i:=3) _ _ _ _ sc_plain.nd rfl (by first | exact Or.inl rfl | exact Or.inr rfl) (@pe_callB _ _ _ _ _ _ _ _ _ (c_max rfl) rfl T.z_max bt_max (@pa_cons _ _ _ _ _ (@pe_int _ _ _ _) (@pa_cons _ _ _ _ _ (pv 3) (@pa_nil _) (by rfl)) (by rfl)) (by decide) (by decide) (by rfl) (by rfl)) (by rfl) (by first | exact .inl rfl | exact .inr rfl | assumption))) (@pss_nil _)) (@pss_cons _ _ _ _ _ (@ps_set _ _ (i:=4) _ _ _ _ sc_plain.nd rfl (by first | exact Or.inl rfl | exact Or.inr rfl) (@pe_callO _ _ _ _ _ _ _ _ _ _ o_posts hr rfl (@pa_cons _ _ _ _ _ (@pe_op _ _ _ _ _ _ _ _ op_fdivB (pv 0) (@pe_int _ _ _ _)) (@pa_cons _ _ _ _ _ (pv 1) (@pa_cons _ _ _ _ _ (pv 3) (@pa_nil _) (by rfl)) (by rfl)) (by rfl)) (by decide) (by rfl) (by rfl)) (by rfl) (by first | exact .inl rfl | exact .inr rfl | assumption)) (@pss_cons _ _ _ _ _ (@ps_set _ _ (i:=5) _ _ _ _ sc_plain.nd rfl (by first | exact Or.inl rfl | exact Or.inr rfl) (@pe_op _ _ _ _ _ _ _ _ op_fdivB (pv 0) (@pe_int _ _ _ _)) (by rfl) (by first | exact .inl rfl | exact .inr rfl | assumption)) (@pss_cons _ _ _ _ _ (@ps_for _ _ _ _ _ _ _ _ PassesOwn.never rfl (@pi_range1 _ _ _ _ _ _ rfl T.z_range (@pa_cons _ _ _ _ _ (pv 3) (@pa_nil _) (by rfl)) (by rfl)) (@pg_name _ _ (i:=6) _ sc_plain.nd rfl (by first | exact Or.inl rfl | exact Or.inr rfl) (by first | exact .inl rfl | exact .inr rfl | assumption)) (@pss_one _ _ _ (@ps_set _ _ (i:=5) _ _ _ _ sc_plain.nd rfl (by first | exact Or.inl rfl | exact Or.inr rfl) (@pe_op _ _ _ _ _ _ _ _ op_fdivB (pv 5) (@pe_int _ _ _ _)) (by rfl) (by first | exact .inl rfl | exact .inr rfl | assumption))) (by intro _; rfl)) (@pss_cons _ _ _ _ _ (@ps_set _ _ (i:=7) _ _ _ _ sc_plain.nd rfl (by first | exact Or.inl rfl | exact Or.inr rfl) (@pe_callO _ _ _ _ _ _ _ _ _ _ o_time hr rfl (@pa_cons _ _ _ _ _ (pv 5) (@pa_nil _) (by rfl)) (by decide) (by rfl) (by rfl)) (by rfl) (by first | exact .inl rfl | exact .inr rfl | assumption)) (@pss_cons _ _ _ _ _ (@ps_if _ _ _ _ _ _ _ _ (@pt_cmpR _ _ _ _ _ _ _ _ (op_eqA hr.units) (pv 2) (@pe_int _ _ _ _) (nomark _)) (@pss_one _ _ _ (@ps_ret _ _ _ _ (@pe_tup _ _ _ _ _ (@pa_cons _ _ _ _ _ (@pe_str _ _ _ _) (@pa_cons _ _ _ _ _ (@pe_ix _ _ _ _ _ _ _ ix_LT (pv 4) (@pe_int _ _ _ _) (fun _ _ => rfl)) (@pa_cons _ _ _ _ _ (@pe_ix _ _ _ _ _ _ _ ix_LT (pv 4) (@pe_int _ _ _ _) (fun _ _ => rfl)) (@pa_cons _ _ _ _ _ (pv 7) (@pa_nil _) (by rfl)) (by rfl)) (by rfl)) (by rfl))))) (@pss_nil _)) (@pss_one _ _ _ (@ps_ret _ _ _ _ (@pe_tup _ _ _ _ _ (@pa_cons _ _ _ _ _ (@pe_ix _ _ _ _ _ _ _ ix_LT (@pe_lst _ _ _ _ (@pa_cons _ _ _ _ _ (@pe_str _ _ _ _) (@pa_cons _ _ _ _ _ (@pe_str _ _ _ _) (@pa_cons _ _ _ _ _ (@pe_str _ _ _ _) (@pa_nil _) (by rfl)) (by rfl)) (by rfl))) (@pe_op _ _ _ _ _ _ _ _ op_sub (pv 2) (@pe_int _ _ _ _)) (fun _ _ => rfl)) (@pa_cons _ _ _ _ _ (pv 7) (@pa_cons _ _ _ _ _ (pv 4) (@pa_nil _) (by rfl)) (by rfl)) (by rfl)))))))))))))),?_⟩
    try dsimp only [cxK_nox,cxK_of]
    walk_at "go"
    refine r_lstK fun l5 hl5 => ?_
    have s1:=Same.new (o:=.lst [V.int 2,V.int 2,V.int 3,V.int 4,V.int 5]) hl5
    have hl5':=upd_same (H:=H) (a:=l5) (o:=.lst [V.int 2,V.int 2,V.int 3,V.int 4,V.int 5])
    generalize L2.upd H l5 (.lst [V.int 2,V.int 2,V.int 3,V.int 4,V.int 5]) = G0 at s1 hl5' ⊢
    walk_at "go"
    obtain ⟨m,em,hm2,hm5⟩:=at5 (c.fdiv 4 % 5) (Int.emod_nonneg _ (by decide)) (Int.emod_lt_of_pos _ (by decide))
    refine r_ixl hl5' em ?_
    have hk:c % 4 = 0 ∨ c % 4 = 1 ∨ c % 4 = 2 ∨ c % 4 = 3:=by omega
    rcases hk with ek | ek | ek | ek
    . rw [ek]
      walk_at "go"
      refine ⟨_,ln,U,2,rfl,fdiv_nn hc (by decide),s1 _ _ hln,hUl,hU,by omega,fun pp G1 ps t1 hpp hpl hps => ?_⟩
      walk_at "go"
      refine r_rng1K (by omega) (by omega) ?_
      refine r_forR (n:=2) (fun i σ G => ∃ (z:Int) (o6:Option V),σ = [some (.int c),some (.ref ln),some (.int 0),some (.int (2:Int)),some (.ref pp),some (.int z),o6,none] /\ G = G1 /\ 0 <= z) ⟨_,_,rfl,rfl,fdiv_nn hc (by decide)⟩ ?_ ?_
      . rintro i σ G hi ⟨z,o6,rfl,rfl,hz⟩
        walk_at "go"
        exact ⟨_,_,rfl,rfl,fdiv_nn hz (by decide)⟩
      rintro σ G ⟨z,o6,rfl,rfl,hz⟩
      walk_at "go"
      refine ⟨z,rfl,hz,fun vt qt G2 t2 ft tr => ?_⟩
      have hpp2:=t2 _ _ hpp
      have sG:=(s1.trans t1).trans t2
      walk_at "go"
      obtain ⟨a,b,rfl⟩:∃ a b,ps = [a,b]:=by
        match ps,hpl with
        | [a,b],_ => exact ⟨a,b,rfl⟩
      refine r_ixt hpp2 (atI_nat (show ([a,b].map V.str)[0]? = some (V.str a) from rfl)) ?_
      walk_at "go"
      refine r_tupK fun p9 hp9 => ?_
      walk_at "go"
      exact q _ _ (.run a b qt) (sG.trans (Same.new hp9)) ⟨p9,vt,rfl,upd_same,ft.tk (TK.new hp9)⟩ ⟨hps a (by simp),hps b (by simp),tr⟩
    . rw [ek]
      walk_at "go"
      refine ⟨_,ln,U,m,rfl,fdiv_nn hc (by decide),s1 _ _ hln,hUl,hU,by omega,fun pp G1 ps t1 hpp hpl hps => ?_⟩
      walk_at "go"
      refine r_rng1K (by omega) (by omega) ?_
      refine r_forR (n:=m) (fun i σ G => ∃ (z:Int) (o6:Option V),σ = [some (.int c),some (.ref ln),some (.int 1),some (.int (m:Int)),some (.ref pp),some (.int z),o6,none] /\ G = G1 /\ 0 <= z) ⟨_,_,rfl,rfl,fdiv_nn hc (by decide)⟩ ?_ ?_
      . rintro i σ G hi ⟨z,o6,rfl,rfl,hz⟩
        walk_at "go"
        exact ⟨_,_,rfl,rfl,fdiv_nn hz (by decide)⟩
      rintro σ G ⟨z,o6,rfl,rfl,hz⟩
      walk_at "go"
      refine ⟨z,rfl,hz,fun vt qt G2 t2 ft tr => ?_⟩
      have hpp2:=t2 _ _ hpp
      have sG:=(s1.trans t1).trans t2
      walk_at "go"
      refine r_lstK fun l8 hl8 => ?_
      have t8:=Same.new (o:=.lst [V.str "row",V.str "star",V.str "ring"]) hl8
      walk_at "go"
      refine r_tupK fun p9 hp9 => ?_
      have t9:=t8.trans (Same.new (o:=.tup [.str (RKind.nm .row),vt,.ref pp]) hp9)
      walk_at "go"
      exact q _ _ (.path .row qt ps) (sG.trans t9) ⟨p9,vt,pp,rfl,upd_same,ft.tk t9.tk,t9 _ _ hpp2⟩ ⟨hps,tr,by omega,by omega,fun z => nomatch z⟩
    . rw [ek]
      walk_at "go"
      refine ⟨_,ln,U,m,rfl,fdiv_nn hc (by decide),s1 _ _ hln,hUl,hU,by omega,fun pp G1 ps t1 hpp hpl hps => ?_⟩
      walk_at "go"
      refine r_rng1K (by omega) (by omega) ?_
      refine r_forR (n:=m) (fun i σ G => ∃ (z:Int) (o6:Option V),σ = [some (.int c),some (.ref ln),some (.int 2),some (.int (m:Int)),some (.ref pp),some (.int z),o6,none] /\ G = G1 /\ 0 <= z) ⟨_,_,rfl,rfl,fdiv_nn hc (by decide)⟩ ?_ ?_
      . rintro i σ G hi ⟨z,o6,rfl,rfl,hz⟩
        walk_at "go"
        exact ⟨_,_,rfl,rfl,fdiv_nn hz (by decide)⟩
      rintro σ G ⟨z,o6,rfl,rfl,hz⟩
      walk_at "go"
      refine ⟨z,rfl,hz,fun vt qt G2 t2 ft tr => ?_⟩
      have hpp2:=t2 _ _ hpp
      have sG:=(s1.trans t1).trans t2
      walk_at "go"
      refine r_lstK fun l8 hl8 => ?_
      have t8:=Same.new (o:=.lst [V.str "row",V.str "star",V.str "ring"]) hl8
      walk_at "go"
      refine r_tupK fun p9 hp9 => ?_
      have t9:=t8.trans (Same.new (o:=.tup [.str (RKind.nm .star),vt,.ref pp]) hp9)
      walk_at "go"
      exact q _ _ (.path .star qt ps) (sG.trans t9) ⟨p9,vt,pp,rfl,upd_same,ft.tk t9.tk,t9 _ _ hpp2⟩ ⟨hps,tr,by omega,by omega,fun z => nomatch z⟩
    . rw [ek]
      walk_at "go"
      obtain ⟨m',em',h3,h5⟩:∃ m':Nat,(if (m:Int) > 3 then (m:Int) else 3) = (m':Int) /\ 3 <= m' /\ m' <= 5:=by
        by_cases h:(m:Int) > 3
        . exact ⟨m,by rw [if_pos h],by omega,hm5⟩
        . exact ⟨3,by rw [if_neg h]; rfl,Nat.le_refl _,by decide⟩
      rw [em']
      walk_at "go"
      refine ⟨_,ln,U,m',rfl,fdiv_nn hc (by decide),s1 _ _ hln,hUl,hU,by omega,fun pp G1 ps t1 hpp hpl hps => ?_⟩
      walk_at "go"
      refine r_rng1K (by omega) (by omega) ?_
      refine r_forR (n:=m') (fun i σ G => ∃ (z:Int) (o6:Option V),σ = [some (.int c),some (.ref ln),some (.int 3),some (.int (m':Int)),some (.ref pp),some (.int z),o6,none] /\ G = G1 /\ 0 <= z) ⟨_,_,rfl,rfl,fdiv_nn hc (by decide)⟩ ?_ ?_
      . rintro i σ G hi ⟨z,o6,rfl,rfl,hz⟩
        walk_at "go"
        exact ⟨_,_,rfl,rfl,fdiv_nn hz (by decide)⟩
      rintro σ G ⟨z,o6,rfl,rfl,hz⟩
      walk_at "go"
      refine ⟨z,rfl,hz,fun vt qt G2 t2 ft tr => ?_⟩
      have hpp2:=t2 _ _ hpp
      have sG:=(s1.trans t1).trans t2
      walk_at "go"
      refine r_lstK fun l8 hl8 => ?_
      have t8:=Same.new (o:=.lst [V.str "row",V.str "star",V.str "ring"]) hl8
      walk_at "go"
      refine r_tupK fun p9 hp9 => ?_
      have t9:=t8.trans (Same.new (o:=.tup [.str (RKind.nm .ring),vt,.ref pp]) hp9)
      walk_at "go"
      exact q _ _ (.path .ring qt ps) (sG.trans t9) ⟨p9,vt,pp,rfl,upd_same,ft.tk t9.tk,t9 _ _ hpp2⟩ ⟨hps,tr,by omega,by omega,fun _ => by omega⟩
set_option maxHeartbeats 0 in
theorem ok_row (T:Bl mg) (d:Df K mg "_law_row" s_row ["_law_number_here","_law_names_here","_law_known"]  ) (o_plain:Okf P w K mg base k "_law_plain" ["_law_number_here","_law_names_here"] spPlain73) (o_posts:Okf P w K mg base k "_law_posts" ["_law_number_here","_law_names_here","_law_many"] spPosts73):Okf P w K mg base (k + 1) "_law_row" ["_law_number_here","_law_names_here","_law_known"] (spRow74 K):=by
  refine Okf.of d sc_row (fun vs H Q E h => ?_) (fun f cdv A outer s H vs Q E hr h => ?_)
  . obtain ⟨c,ln,U,lk,E,rfl,_⟩:=h
    rfl
  . obtain ⟨c,ln,U,lk,E,rfl,hc,hln,hUl,hU,hk,hE8,hps,q⟩:=h
    refine ⟨_,(@pss_cons _ _ _ _ _ (@ps_if _ _ _ _ _ _ _ _ (@PW.pt _ _ _ (@pw_and _ _ _ _ _ _ _ (@pt_cmpR _ _ _ _ _ _ _ _ (op_eqA hr.units) (@pe_op _ _ _ _ _ _ _ _ op_mod (pv 0) (@pe_int _ _ _ _)) (@pe_int _ _ _ _) (nomark _)) (@pw_and1 _ _ _ _ (@pt_cmpR _ _ _ _ _ _ _ _ op_gt (@pe_callB _ _ _ _ _ _ _ _ _ c_len rfl T.z_len bt_len (@pa_cons _ _ _ _ _ (pv 2) (@pa_nil _) (by rfl)) (by decide) (by decide) (by rfl) (by rfl)) (@pe_int _ _ _ _) (nomark _))))) (@pss_cons _ _ _ _ _ (@ps_asg _ _ _ _ _ _ (@pe_ix _ _ _ _ _ _ _ ix_LT (pv 2) (@pe_op _ _ _ _ _ _ _ _ op_mod (@pe_op _ _ _ _ _ _ _ _ op_fdivB (pv 0) (@pe_int _ _ _ _)) (@pe_callB _ _ _ _ _ _ _ _ _ c_len rfl T.z_len bt_len (@pa_cons _ _ _ _ _ (pv 2) (@pa_nil _) (by rfl)) (by decide) (by decide) (by rfl) (by rfl))) (fun _ _ => rfl)) (@pg_tup _ _ _ _ _ (n:=2) rfl (@pgs_cons _ _ _ _ _ (@pg_name _ _ (i:=3) _ sc_row.nd rfl (by first | exact Or.inl rfl | exact Or.inr rfl) (by first | exact .inl rfl | exact .inr rfl | assumption)) (@pgs_cons _ _ _ _ _ (@pg_name _ _ (i:=4) _ sc_row.nd rfl (by first | exact Or.inl rfl | exact Or.inr rfl) (by first | exact .inl rfl | exact .inr rfl | assumption)) (@pgs_nil _) (by rfl)) (by rfl)) (by rfl) (by rfl)) (by rfl) (by rfl) (by rfl)) (@pss_cons _ _ _ _ _ (@ps_set _ _ (i:=0) _ _ _ _ sc_row.nd rfl (by first | exact Or.inl rfl | exact Or.inr rfl) (@pe_op _ _ _ _ _ _ _ _ op_fdivB (@pe_op _ _ _ _ _ _ _ _ op_fdivB (pv 0) (@pe_int _ _ _ _)) (@pe_callB _ _ _ _ _ _ _ _ _ c_len rfl T.z_len bt_len (@pa_cons _ _ _ _ _ (pv 2) (@pa_nil _) (by rfl)) (by decide) (by decide) (by rfl) (by rfl))) (by rfl) (by first | exact .inl rfl | exact .inr rfl | assumption)) (@pss_one _ _ _ (@ps_ret _ _ _ _ (@pe_tup _ _ _ _ _ (@pa_cons _ _ _ _ _ (@pe_str _ _ _ _) (@pa_cons _ _ _ _ _ (pv 3) (@pa_cons _ _ _ _ _ (@pe_ix _ _ _ _ _ _ _ ix_LT (pv 1) (@pe_op _ _ _ _ _ _ _ _ op_mod (pv 0) (@pe_int _ _ _ _)) (fun _ _ => rfl)) (@pa_cons _ _ _ _ _ (@pe_callO _ _ _ _ _ _ _ _ _ _ o_posts hr rfl (@pa_cons _ _ _ _ _ (@pe_op _ _ _ _ _ _ _ _ op_fdivB (pv 0) (@pe_int _ _ _ _)) (@pa_cons _ _ _ _ _ (pv 1) (@pa_cons _ _ _ _ _ (pv 4) (@pa_nil _) (by rfl)) (by rfl)) (by rfl)) (by decide) (by rfl) (by rfl)) (@pa_nil _) (by rfl)) (by rfl)) (by rfl)) (by rfl))))))) (@pss_nil _)) (@pss_one _ _ _ (@ps_ret _ _ _ _ (@pe_callO _ _ _ _ _ _ _ _ _ _ o_plain hr rfl (@pa_cons _ _ _ _ _ (@pe_op _ _ _ _ _ _ _ _ op_fdivB (pv 0) (@pe_int _ _ _ _)) (@pa_cons _ _ _ _ _ (pv 1) (@pa_nil _) (by rfl)) (by rfl)) (by decide) (by rfl) (by rfl))))),?_⟩
    try dsimp only [cxK_nox,cxK_of]
    obtain ⟨ks,hks,pk⟩:=hk
    have hkl:=Paired.length pk
    rw [List.length_reverse] at hkl
    walk_at "go"
    refine i_d (fun c1 => ?_) (fun c1 => ?_)
    . walk_at "go"
      refine i_d (fun c2 => ?_) (fun c2 => ?_)
      . have hpos:(0:Int) < (ks.length:Int):=by omega
        walk_at "go"
        have m0:=Int.emod_nonneg (c.fdiv 3) (show (ks.length:Int) ≠ 0 by omega)
        have m1:=Int.emod_lt_of_pos (c.fdiv 3) hpos
        obtain ⟨j,hj,ej⟩:∃ j:Nat,j < ks.length /\ c.fdiv 3 % (ks.length:Int) = (j:Int):=⟨(c.fdiv 3 % (ks.length:Int)).toNat,by omega,by omega⟩
        rw [ej]
        obtain ⟨v,hv⟩:∃ v,ks[j]? = some v:=⟨_,List.getElem?_eq_getElem hj⟩
        obtain ⟨p,hp0,a,rfl,ha⟩:=Paired.at pk hv
        have hpm:p ∈ E:=List.mem_reverse.mp (List.mem_of_getElem? hp0)
        have h8:=hps p hpm
        refine r_ixl hks (atI_nat hv) ?_
        walk_at "go"
        have d0:0 <= (c.fdiv 3).fdiv (ks.length:Int):=fdiv_nn (fdiv_nn hc (by decide)) hpos
        generalize (c.fdiv 3).fdiv (ks.length:Int) = c' at d0 ⊢
        obtain ⟨s1,ms1,e1⟩:=pickS' (nm:=U) (i:=c' % 8) (Int.emod_nonneg _ (by decide)) (by have:=Int.emod_lt_of_pos c' (show (0:Int) < 8 by decide); omega)
        refine r_ixl hln e1 ?_
        walk_at "go"
        refine ⟨_,ln,U,p.2.1.length,rfl,fdiv_nn d0 (by decide),hln,hUl,hU,by omega,fun pp G ps sG hpp hpl hps' => ?_⟩
        walk_at "go"
        refine r_tupK fun p9 hp9 => ?_
        walk_at "go"
        have t9:=Same.new (o:=.tup [.str "put",.str p.1,.str s1,.ref pp]) hp9
        exact q _ _ (.put p.1 s1 ps) (sG.trans t9) ⟨p9,pp,rfl,upd_same,t9 _ _ hpp⟩ ⟨hU s1 ms1,hps',by omega,p,hpm,rfl,hpl.symm⟩
      . walk_at "go"
        exact ⟨_,ln,U,rfl,fdiv_nn hc (by decide),hln,hUl,hU,fun v H' r s rq ok => q v H' (.plain r) s rq ok⟩
    . walk_at "go"
      exact ⟨_,ln,U,rfl,fdiv_nn hc (by decide),hln,hUl,hU,fun v H' r s rq ok => q v H' (.plain r) s rq ok⟩
set_option maxHeartbeats 0 in
theorem ok_closed (T:Bl mg) (d:Df K mg "_law_closed" s_closed ["_law_state"]  ):Okf P w K mg base (k + 1) "_law_closed" ["_law_state"] (spClosed K):=by
  refine Okf.of d sc_closed (fun vs H Q E h => ?_) (fun f cdv A outer s H vs Q E hr h => ?_)
  . obtain ⟨d,lf,lk,U,gs,x,H0,n,rfl,_⟩:=h
    rfl
  . obtain ⟨d,lf,lk,U,gs,x,H0,n,rfl,s0,st,hne,hn,q⟩:=h
    refine ⟨_,(@pss_cons _ _ _ _ _ (@ps_asg _ _ _ _ _ _ (@pe_dget _ _ _ _ _ _ hr.u1 (pv 0) (@pe_str _ _ _ _) (fun _ _ => rfl)) (@pg_lst _ _ _ _ (n:=3) _ rfl (@pgs_cons _ _ _ _ _ (@pg_name _ _ (i:=1) _ sc_closed.nd rfl (by first | exact Or.inl rfl | exact Or.inr rfl) (by first | exact .inl rfl | exact .inr rfl | assumption)) (@pgs_cons _ _ _ _ _ (@pg_name _ _ (i:=2) _ sc_closed.nd rfl (by first | exact Or.inl rfl | exact Or.inr rfl) (by first | exact .inl rfl | exact .inr rfl | assumption)) (@pgs_cons _ _ _ _ _ (@pg_name _ _ (i:=3) _ sc_closed.nd rfl (by first | exact Or.inl rfl | exact Or.inr rfl) (by first | exact .inl rfl | exact .inr rfl | assumption)) (@pgs_nil _) (by rfl)) (by rfl)) (by rfl)) (by rfl) (by rfl)) (by rfl) (by rfl) (by rfl)) (@pss_cons _ _ _ _ _ (@ps_expr _ _ _ _ (@pe_bm _ _ _ _ _ _ _ _ _ _ _ _ PySem.F.plainAttrs_list PySem.F.slot_list_append PySem.F.type_list_append mt_append (@pe_dget _ _ _ _ _ _ hr.u1 (pv 0) (@pe_str _ _ _ _) (fun _ _ => rfl)) (@pa_cons _ _ _ _ _ (@pe_tup _ _ _ _ _ (@pa_cons _ _ _ _ _ (@pe_str _ _ _ _) (@pa_cons _ _ _ _ _ (pv 1) (@pa_cons _ _ _ _ _ (pv 2) (@pa_cons _ _ _ _ _ (@pe_callTy _ _ _ _ _ _ _ _ _ call_tuple_of rfl T.z_tuple bt_tuple (@pa_cons _ _ _ _ _ (pv 3) (@pa_nil _) (by rfl)) (by decide) (by decide) (by rfl) (by rfl)) (@pa_nil _) (by rfl)) (by rfl)) (by rfl)) (by rfl))) (@pa_nil _) (by rfl)) (by rfl) (by rfl) (by rfl) (by rfl) (by rfl)) (by rfl)) (@pss_cons _ _ _ _ _ (@ps_expr _ _ _ _ (@pe_bm _ _ _ _ _ _ _ _ _ _ _ _ PySem.F.plainAttrs_list PySem.F.slot_list_append PySem.F.type_list_append mt_append (@pe_dget _ _ _ _ _ _ hr.u1 (pv 0) (@pe_str _ _ _ _) (fun _ _ => rfl)) (@pa_cons _ _ _ _ _ (@pe_tup _ _ _ _ _ (@pa_cons _ _ _ _ _ (pv 1) (@pa_cons _ _ _ _ _ (@pe_callB _ _ _ _ _ _ _ _ _ c_len rfl T.z_len bt_len (@pa_cons _ _ _ _ _ (pv 2) (@pa_nil _) (by rfl)) (by decide) (by decide) (by rfl) (by rfl)) (@pa_nil _) (by rfl)) (by rfl))) (@pa_nil _) (by rfl)) (by rfl) (by rfl) (by rfl) (by rfl) (by rfl)) (by rfl)) (@pss_cons _ _ _ _ _ (@ps_dput _ _ _ _ _ _ _ _ _ hr.u1 (pv 0) (@pe_str _ _ _ _) (@pe_non _ _ _) rfl) (@pss_one _ _ _ (@ps_dput _ _ _ _ _ _ _ _ _ hr.u1 (pv 0) (@pe_str _ _ _ _) (@pe_op _ _ _ _ _ _ _ _ op_addA (@pe_dget _ _ _ _ _ _ hr.u1 (pv 0) (@pe_str _ _ _ _) (fun _ _ => rfl)) (@pe_int _ _ _ _)) rfl)))))),?_⟩
    try dsimp only [cxK_nox,cxK_of]
    obtain ⟨⟨vi,u,hd,⟨⟨li,qa,ls,ys,rfl,hli,hqa,hls,prs,f1,f2,n1,n2,n3,n4,n5⟩,inm,inw,ind',ile,iwf,ipb⟩⟩,ne,⟨fd,ff,fk⟩,⟨xs,hxs,px⟩,⟨ks,hks,pk⟩,wf,nm,le⟩:=st
    have hxl:=Paired.length px
    have hkl:=Paired.length pk
    rw [List.length_reverse] at hkl
    have le':lnN gs + (x.2.2.length + 1) <= n:=le
    have lnl:=ln_le gs
    have hyl:=Paired.length prs
    have hel:(envG [] gs).length <= 55:=by
      have:=env_cnt gs []
      rw [List.length_nil] at this
      omega
    have rpos:1 <= x.2.2.length:=List.length_pos_iff.mpr hne
    have hdl:∀ {b:Addr} {zs:List V},H b = some (.lst zs) -> b ≠ d:=fun h e => by rw [e,hd] at h; cases h
    walk_at "go"
    refine r_dGs (.inl hd) st_inside ?_
    refine r_gLst hli rfl ?_
    walk_at "go"
    refine r_dGs (.inl hd) st_found ?_
    walk_at "go"
    refine ⟨ls,_,rfl,.inl ⟨SqL.of hls,fun p1 hp1 => ?_⟩⟩
    have t1:=Same.new (o:=.tup ys) hp1
    have g1:=upd_same (H:=H) (a:=p1) (o:=.tup ys)
    generalize L2.upd H p1 (.tup ys) = H1 at t1 g1 ⊢
    walk_at "go"
    refine r_tupK fun p2 hp2 => ?_
    have t2:=Same.new (o:=.tup [.str "piece",.str x.1,.ref qa,.ref p1]) hp2
    have g2:=upd_same (H:=H1) (a:=p2) (o:=.tup [.str "piece",.str x.1,.ref qa,.ref p1])
    generalize L2.upd H1 p2 (.tup [.str "piece",.str x.1,.ref qa,.ref p1]) = H2 at t2 g2 ⊢
    have t12:=t1.trans t2
    have pq:PieceQ H2 (.ref p2) x:=⟨p2,qa,p1,ys,rfl,g2,t12 _ _ hqa,t2 _ _ g1,Pd.imp prs fun v b f => f.tk t12.tk⟩
    walk_at "go"
    refine r_app (t12 _ _ hxs) (by omega) ?_
    have k3:Kp lf H2 (L2.upd H2 lf (.lst (xs ++ [.ref p2]))):=Kp.upd
    have tk3:=TK.lst (o:=.lst (xs ++ [.ref p2])) (t12 _ _ hxs)
    have g3:=upd_same (H:=H2) (a:=lf) (o:=.lst (xs ++ [.ref p2]))
    generalize L2.upd H2 lf (.lst (xs ++ [.ref p2])) = H3 at k3 tk3 g3 ⊢
    have hd3:=k3 _ _ (hdl hxs).symm (t12 _ _ hd)
    have hks3:=k3 _ _ ne.symm (t12 _ _ hks)
    have hqa3:=tk3 _ _ (t12 _ _ hqa)
    walk_at "go"
    refine r_dGs (.inl hd3) st_known ?_
    walk_at "go"
    refine r_tupK fun p4 hp4 => ?_
    have t4:=Same.new (o:=.tup [.str x.1,.int ((x.2.1.map V.str).length:Int)]) hp4
    have g4:=upd_same (H:=H3) (a:=p4) (o:=.tup [.str x.1,.int ((x.2.1.map V.str).length:Int)])
    generalize L2.upd H3 p4 (.tup [.str x.1,.int ((x.2.1.map V.str).length:Int)]) = H4 at t4 g4 ⊢
    rw [List.length_map] at g4
    walk_at "go"
    refine r_app (t4 _ _ hks3) (by omega) ?_
    have k5:Kp lk H4 (L2.upd H4 lk (.lst (ks ++ [.ref p4]))):=Kp.upd
    have tk5:=TK.lst (o:=.lst (ks ++ [.ref p4])) (t4 _ _ hks3)
    have g5:=upd_same (H:=H4) (a:=lk) (o:=.lst (ks ++ [.ref p4]))
    generalize L2.upd H4 lk (.lst (ks ++ [.ref p4])) = H5 at k5 tk5 g5 ⊢
    have hd5:=k5 _ _ (hdl hks).symm (t4 _ _ hd3)
    walk_at "go"
    refine r_dPs hd5 (by show 4 <= 1000; decide) ?_
    rw [st_pin]
    have k6:Kp d H5 (L2.upd H5 d (.dK (stK lf lk .non u))):=Kp.upd
    have tk6:=TK.dic (o:=.dK (stK lf lk .non u)) hd5
    have g6:=upd_same (H:=H5) (a:=d) (o:=.dK (stK lf lk .non u))
    generalize L2.upd H5 d (.dK (stK lf lk .non u)) = H6 at k6 tk6 g6 ⊢
    walk_at "go"
    refine r_dGs (.inl g6) st_used ?_
    walk_at "go"
    refine r_dPs g6 (by show 4 <= 1000; decide) ?_
    rw [st_pus]
    have k7:Kp d H6 (L2.upd H6 d (.dK (stK lf lk .non (u + 6)))):=Kp.upd
    have tk7:=TK.dic (o:=.dK (stK lf lk .non (u + 6))) g6
    have g7:=upd_same (H:=H6) (a:=d) (o:=.dK (stK lf lk .non (u + 6)))
    generalize L2.upd H6 d (.dK (stK lf lk .non (u + 6))) = H7 at k7 tk7 g7 ⊢
    walk_at "go"
    have tk37:=((t4.tk.trans tk5).trans tk6).trans tk7
    have tk27:=tk3.trans tk37
    have hlf7:H7 lf = some (.lst (xs ++ [.ref p2])):=k7 _ _ (hdl hxs) (k6 _ _ (hdl hxs) (k5 _ _ ne (t4 _ _ g3)))
    have hlk7:H7 lk = some (.lst (ks ++ [.ref p4])):=k7 _ _ (hdl hks) (k6 _ _ (hdl hks) g5)
    refine q H7 (fun b o h => ?_) ⟨⟨_,_,g7,rfl⟩,ne,⟨fd,ff,fk⟩,⟨_,hlf7,?_⟩,?_,?_,?_,?_⟩
    . have b1:=ne_of_none h fd
      have b2:=ne_of_none h ff
      have b3:=ne_of_none h fk
      exact k7 _ _ b1 (k6 _ _ b1 (k5 _ _ b3 (t4 _ _ (k3 _ _ b2 (t12 _ _ (s0 _ _ h))))))
    . exact Pd.snoc (Pd.imp px fun v b f => (f.tk t12.tk).tk tk27) (show GRowQ H7 (.ref p2) (.piece x) from pq.tk tk27)
    . rw [env_snoc]
      refine ⟨_,hlk7,?_⟩
      rw [show (envG (envG [] gs) [.piece x]).reverse = (envG [] gs).reverse ++ [x] from List.reverse_cons]
      exact Pd.snoc (Pd.imp pk fun v b ⟨a,e,f⟩ => ⟨a,e,tk37 _ _ (tk3 _ _ (t12 _ _ f))⟩) ⟨p4,rfl,((tk5.trans tk6).trans tk7) _ _ g4⟩
    . exact (wfg_snoc gs [] (.piece x)).mpr ⟨wf,⟨iwf,hne,by omega,ind',⟨ile.1,ile.2,ipb⟩,inw⟩,trivial⟩
    . rw [env_snoc]
      intro p hp
      rcases List.mem_cons.mp (show p ∈ x :: envG [] gs from hp) with rfl | hp
      . exact inm
      . exact nm p hp
    . rw [ln_snoc]
      show lnN gs + (0 + x.2.2.length + 2) + 0 <= _
      omega
theorem ok_time_text (T:Bl mg) (d:Df K mg "_law_time_text" s_time_text ["_law_time_here"]  ):Okf P w K mg base (k + 1) "_law_time_text" ["_law_time_here"] spTimeTx:=by
  refine Okf.of d sc_time_text (fun vs H Q E h => ?_) (fun f cdv A outer s H vs Q E hr h => ?_)
  . obtain ⟨v,t,rfl,_⟩:=h
    rfl
  . obtain ⟨v,t,rfl,⟨p,rfl,hp⟩,ht,q⟩:=h
    refine ⟨_,(@pss_cons _ _ _ _ _ (@ps_if _ _ _ _ _ _ _ _ (@pt_cmpR _ _ _ _ _ _ _ _ (op_eqA hr.units) (@pe_ix _ _ _ _ _ _ _ ix_LT (pv 0) (@pe_int _ _ _ _) (fun _ _ => rfl)) (@pe_int _ _ _ _) (nomark _)) (@pss_one _ _ _ (@ps_ret _ _ _ _ (@pe_callTy _ _ _ _ _ _ _ _ _ c_strI rfl T.z_str bt_str (@pa_cons _ _ _ _ _ (@pe_ix _ _ _ _ _ _ _ ix_LT (pv 0) (@pe_int _ _ _ _) (fun _ _ => rfl)) (@pa_nil _) (by rfl)) (by decide) (by decide) (by rfl) (by rfl)))) (@pss_nil _)) (@pss_one _ _ _ (@ps_ret _ _ _ _ (@pe_op _ _ _ _ _ _ _ _ op_addA (@pe_op _ _ _ _ _ _ _ _ op_addA (@pe_callTy _ _ _ _ _ _ _ _ _ c_strI rfl T.z_str bt_str (@pa_cons _ _ _ _ _ (@pe_ix _ _ _ _ _ _ _ ix_LT (pv 0) (@pe_int _ _ _ _) (fun _ _ => rfl)) (@pa_nil _) (by rfl)) (by decide) (by decide) (by rfl) (by rfl)) (@pe_str _ _ _ _)) (@pe_callTy _ _ _ _ _ _ _ _ _ c_strI rfl T.z_str bt_str (@pa_cons _ _ _ _ _ (@pe_ix _ _ _ _ _ _ _ ix_LT (pv 0) (@pe_int _ _ _ _) (fun _ _ => rfl)) (@pa_nil _) (by rfl)) (by decide) (by decide) (by rfl) (by rfl)))))),?_⟩
    try dsimp only [cxK_nox,cxK_of]
    have hn:=ht.num
    have hd:=ht.den
    have b1:(Str.ofString (toString t.num)).length <= 12:=(num_len (by omega:0 <= t.num) hn.2).2
    have b2:(Str.ofString (toString (t.den:Int))).length <= 12:=(num_len (by omega:0 <= (t.den:Int)) hd.2).2
    have b3:(Str.ofString "/").length = 1:=by decide +kernel
    have es:Str.ofString "/" = ⟨#[47]⟩:=by decide +kernel
    walk_at "go"
    refine i_d (fun c1 => ?_) (fun c1 => ?_)
    . walk_at "go"
      refine ⟨t.num,rfl,by omega,?_⟩
      walk_at "go"
      rw [show tmS t = numS t.num from if_pos (by omega)] at q
      exact q
    walk_at "go"
    refine ⟨t.num,rfl,by omega,?_⟩
    refine r_addS (by omega) ?_
    walk_at "go"
    refine ⟨(t.den:Int),rfl,by omega,?_⟩
    refine r_addS (by rw [len_app]; omega) ?_
    walk_at "go"
    rw [show tmS t = numS t.num ++ ⟨#[47]⟩ ++ numS (t.den:Int) from if_neg (by omega)] at q
    rw [es]
    exact q
set_option maxHeartbeats 0 in
theorem ok_row_texts_in (T:Bl mg) (d:Df K mg "_law_row_texts" s_row_texts ["_law_row_here"]) (o_time_text:Okf P w K mg base k "_law_time_text" ["_law_time_here"] spTimeTx):Okf P w K mg base (k + 1) "_law_row_texts" ["_law_row_here"] (spRowTxI K):=by
  refine Okf.of d sc_row_texts (fun vs H Q E h => ?_) (fun f cdv A outer s H vs Q E hr h => ?_)
  . obtain ⟨v,r,E,rfl,_⟩:=h
    rfl
  . obtain ⟨v,r,E,rfl,hro,hw,hE,q⟩:=h
    refine ⟨_,(@pss_cons _ _ _ _ _ (@ps_if _ _ _ _ _ _ _ _ (@pt_cmpR _ _ _ _ _ _ _ _ (op_eqA hr.units) (@pe_ix _ _ _ _ _ _ _ ix_LT (pv 0) (@pe_int _ _ _ _) (fun _ _ => rfl)) (@pe_str _ _ _ _) (nomark _)) (@pss_one _ _ _ (@ps_ret _ _ _ _ (@pe_lst _ _ _ _ (@pa_cons _ _ _ _ _ (@pe_op _ _ _ _ _ _ _ _ op_addA (@pe_op _ _ _ _ _ _ _ _ op_addA (@pe_bm _ _ _ _ _ _ _ _ _ _ _ _ PySem.F.plainAttrs_str PySem.F.slot_str_join PySem.F.type_str_join mt_joinT (@pe_str _ _ _ _) (@pa_cons _ _ _ _ _ (@pe_slice _ _ _ _ _ _ _ _ _ _ sl_any (pv 0) (@po_none _) (@po_some _ _ _ (@pe_int _ _ _ _))) (@pa_nil _) (by rfl)) (by rfl) (by rfl) (by rfl) (by rfl) (by rfl)) (@pe_str _ _ _ _)) (@pe_callO _ _ _ _ _ _ _ _ _ _ o_time_text hr rfl (@pa_cons _ _ _ _ _ (@pe_ix _ _ _ _ _ _ _ ix_LT (pv 0) (@pe_int _ _ _ _) (fun _ _ => rfl)) (@pa_nil _) (by rfl)) (by decide) (by rfl) (by rfl))) (@pa_nil _) (by rfl))))) (@pss_nil _)) (@pss_cons _ _ _ _ _ (@ps_if _ _ _ _ _ _ _ _ (@pt_cmpR _ _ _ _ _ _ _ _ (op_eqA hr.units) (@pe_ix _ _ _ _ _ _ _ ix_LT (pv 0) (@pe_int _ _ _ _) (fun _ _ => rfl)) (@pe_str _ _ _ _) (nomark _)) (@pss_one _ _ _ (@ps_ret _ _ _ _ (@pe_lst _ _ _ _ (@pa_cons _ _ _ _ _ (@pe_bm _ _ _ _ _ _ _ _ _ _ _ _ PySem.F.plainAttrs_str PySem.F.slot_str_join PySem.F.type_str_join mt_joinT (@pe_str _ _ _ _) (@pa_cons _ _ _ _ _ (@pe_op _ _ _ _ _ _ _ _ op_addA (@pe_slice _ _ _ _ _ _ _ _ _ _ sl_any (pv 0) (@po_none _) (@po_some _ _ _ (@pe_int _ _ _ _))) (@pe_ix _ _ _ _ _ _ _ ix_LT (pv 0) (@pe_int _ _ _ _) (fun _ _ => rfl))) (@pa_nil _) (by rfl)) (by rfl) (by rfl) (by rfl) (by rfl) (by rfl)) (@pa_nil _) (by rfl))))) (@pss_nil _)) (@pss_cons _ _ _ _ _ (@ps_if _ _ _ _ _ _ _ _ (@pt_cmpR _ _ _ _ _ _ _ _ (op_neA hr.units) (@pe_ix _ _ _ _ _ _ _ ix_LT (pv 0) (@pe_int _ _ _ _) (fun _ _ => rfl)) (@pe_str _ _ _ _) (nomark _)) (@pss_one _ _ _ (@ps_ret _ _ _ _ (@pe_lst _ _ _ _ (@pa_cons _ _ _ _ _ (@pe_bm _ _ _ _ _ _ _ _ _ _ _ _ PySem.F.plainAttrs_str PySem.F.slot_str_join PySem.F.type_str_join mt_joinT (@pe_str _ _ _ _) (@pa_cons _ _ _ _ _ (@pe_op _ _ _ _ _ _ _ _ op_addA (@pe_tup _ _ _ _ _ (@pa_cons _ _ _ _ _ (@pe_ix _ _ _ _ _ _ _ ix_LT (pv 0) (@pe_int _ _ _ _) (fun _ _ => rfl)) (@pa_cons _ _ _ _ _ (@pe_callO _ _ _ _ _ _ _ _ _ _ o_time_text hr rfl (@pa_cons _ _ _ _ _ (@pe_ix _ _ _ _ _ _ _ ix_LT (pv 0) (@pe_int _ _ _ _) (fun _ _ => rfl)) (@pa_nil _) (by rfl)) (by decide) (by rfl) (by rfl)) (@pa_nil _) (by rfl)) (by rfl))) (@pe_ix _ _ _ _ _ _ _ ix_LT (pv 0) (@pe_int _ _ _ _) (fun _ _ => rfl))) (@pa_nil _) (by rfl)) (by rfl) (by rfl) (by rfl) (by rfl) (by rfl)) (@pa_nil _) (by rfl))))) (@pss_nil _)) (@pss_cons _ _ _ _ _ (@ps_never _ _) (@pss_cons _ _ _ _ _ (@ps_never _ _) (@pss_one _ _ _ (@ps_never _ _))))))),?_⟩
    try dsimp only [cxK_nox,cxK_of]
    have es:(Str.ofString " ").length = 1:=by decide +kernel
    have cap:∀ {ys:List Str},ys.length <= 40 -> (∀ s ∈ ys,WdS s) -> (ys.map (·.length)).sum + ys.length * (Str.ofString " ").length <= 16777216:=fun {ys} hl hs => by
      have h1:=sum_cap fun s h => (hs s h).2.2
      have h2:ys.length * 100 <= 40 * 100:=Nat.mul_le_mul_right _ hl
      rw [es]
      omega
    cases r with
    | plain r =>
      cases r with
      | run a b t =>
        obtain ⟨p,u,rfl,hp,hu⟩:=hro
        obtain ⟨h1,h2,h3⟩:=(show PostS a /\ PostS b /\ TimR t from hw)
        have lok:=row_ln hE (r:=.plain (.run a b t)) hw
        have c1:=cap (ys:=["run",a,b]) (by show 3 <= 40; decide) (fun s hs => lok.2.1 s (by
          show s ∈ [("run":Str),a,b] ++ [tmS t]
          exact List.mem_append_left _ hs))
        have jl:(Str.join (Str.ofString " ") ["run",a,b]).length <= 10000:=join_len (ws:=["run",a,b]) (fun s hs => (lok.2.1 s (by
          show s ∈ [("run":Str),a,b] ++ [tmS t]
          exact List.mem_append_left _ hs)).2.2) (by show 3 <= 50; decide)
        have tl:=(tm_wd h3).2.2
        walk_at "go"
        refine s_3of4 hp fun l1 hl1 => ?_
        have t1:=Same.new (o:=.tup [.str "run",.str a,.str b]) hl1
        have g1:=upd_same (H:=H) (a:=l1) (o:=.tup [.str "run",.str a,.str b])
        generalize L2.upd H l1 (.tup [.str "run",.str a,.str b]) = H1 at t1 g1 ⊢
        have hp1:=t1 _ _ hp
        walk_at "go"
        refine ⟨_,l1,["run",a,b],rfl,rfl,g1,c1,?_⟩
        refine r_addS (by omega) ?_
        walk_at "go"
        refine ⟨u,t,rfl,hu.tk t1.tk,h3,?_⟩
        refine r_addS (by rw [len_app]; omega) ?_
        walk_at "go"
        refine r_lstK fun l2 hl2 => ?_
        rw [run_text a b (tmS t)]
        walk_at "go"
        exact q l2 _ (t1.free hl2) (t1.trans (Same.new hl2)) upd_same
      | path k t ps =>
        obtain ⟨p,u,z,rfl,hp,hu,hz⟩:=hro
        have lok:=row_ln hE (r:=.plain (.path k t ps)) hw
        obtain ⟨h1,h2,h3,h4,_⟩:=hw
        have c1:=cap (ys:=RKind.nm k :: tmS t :: ps) (by rw [List.length_cons,List.length_cons]; omega) (fun s hs => lok.2.1 s hs)
        cases k <;>
        . walk_at "go"
          refine ⟨u,t,rfl,hu,h2,?_⟩
          walk_at "go"
          refine r_tupK fun l1 hl1 => ?_
          walk_at "go"
          refine a_tup upd_same (upd_old hl1 hz) (by rw [List.length_map]; show 2 + _ <= _; omega) (List.cons_ne_nil _ _) (fun e => by rw [List.map_eq_nil_iff] at e; rw [e] at h3; exact absurd h3 (by decide)) fun l2 hl2 => ?_
          walk_at "go"
          refine ⟨_,l2,_ :: tmS t :: ps,rfl,rfl,upd_same,c1,?_⟩
          walk_at "go"
          refine r_lstK fun l3 hl3 => ?_
          walk_at "go"
          exact q l3 _ (((Same.new hl1).trans (Same.new hl2)).free hl3) (((Same.new hl1).trans (Same.new hl2)).trans (Same.new hl3)) upd_same
    | put nm cl as =>
      have lok:=row_ln hE (r:=.put nm cl as) hw
      obtain ⟨p,q',rfl,hp,hq⟩:=hro
      obtain ⟨w1,w2,w3,x,hx,rfl,wl⟩:=hw
      have c1:=cap (ys:="put" :: x.1 :: cl :: as) (by rw [List.length_cons,List.length_cons,List.length_cons]; omega) (fun s hs => lok.2.1 s hs)
      walk_at "go"
      refine s_3of4 hp fun l1 hl1 => ?_
      have t1:=Same.new (o:=.tup [.str "put",.str x.1,.str cl]) hl1
      have g1:=upd_same (H:=H) (a:=l1) (o:=.tup [.str "put",.str x.1,.str cl])
      generalize L2.upd H l1 (.tup [.str "put",.str x.1,.str cl]) = H1 at t1 g1 ⊢
      have hp1:=t1 _ _ hp
      walk_at "go"
      have has:as ≠ []:=fun e => by rw [e] at w3; exact absurd w3.1 (by decide)
      refine a_tup g1 (t1 _ _ hq) (by rw [List.length_map]; show 3 + _ <= _; omega) (List.cons_ne_nil _ _) (fun e => has (List.map_eq_nil_iff.mp e)) fun l2 hl2 => ?_
      have t2:=t1.trans (Same.new (o:=.tup ([.str "put",.str x.1,.str cl] ++ as.map V.str)) hl2)
      walk_at "go"
      refine ⟨_,l2,"put" :: x.1 :: cl :: as,rfl,rfl,upd_same,c1,?_⟩
      walk_at "go"
      refine r_lstK fun l3 hl3 => ?_
      walk_at "go"
      exact q l3 _ (t2.free hl3) (t2.trans (Same.new hl3)) upd_same
set_option maxHeartbeats 0 in
theorem ok_row_texts (T:Bl mg) (d:Df K mg "_law_row_texts" s_row_texts ["_law_row_here"]  ) (o_row_texts:Okf P w K mg base k "_law_row_texts" ["_law_row_here"] (spRowTxI K)) (o_time_text:Okf P w K mg base k "_law_time_text" ["_law_time_here"] spTimeTx):Okf P w K mg base (k + 1) "_law_row_texts" ["_law_row_here"] (spRowTx K):=by
  refine Okf.of d sc_row_texts (fun vs H Q E h => ?_) (fun f cdv A outer s H vs Q E hr h => ?_)
  . obtain ⟨v,g,E,rfl,_⟩:=h
    rfl
  . obtain ⟨v,g,E,rfl,hg,hw,hE,q⟩:=h
    refine ⟨_,(@pss_cons _ _ _ _ _ (@ps_if _ _ _ _ _ _ _ _ (@pt_cmpR _ _ _ _ _ _ _ _ (op_eqA hr.units) (@pe_ix _ _ _ _ _ _ _ ix_LT (pv 0) (@pe_int _ _ _ _) (fun _ _ => rfl)) (@pe_str _ _ _ _) (nomark _)) (@pss_one _ _ _ (@ps_ret _ _ _ _ (@pe_lst _ _ _ _ (@pa_cons _ _ _ _ _ (@pe_op _ _ _ _ _ _ _ _ op_addA (@pe_op _ _ _ _ _ _ _ _ op_addA (@pe_bm _ _ _ _ _ _ _ _ _ _ _ _ PySem.F.plainAttrs_str PySem.F.slot_str_join PySem.F.type_str_join mt_joinT (@pe_str _ _ _ _) (@pa_cons _ _ _ _ _ (@pe_slice _ _ _ _ _ _ _ _ _ _ sl_any (pv 0) (@po_none _) (@po_some _ _ _ (@pe_int _ _ _ _))) (@pa_nil _) (by rfl)) (by rfl) (by rfl) (by rfl) (by rfl) (by rfl)) (@pe_str _ _ _ _)) (@pe_callO _ _ _ _ _ _ _ _ _ _ o_time_text hr rfl (@pa_cons _ _ _ _ _ (@pe_ix _ _ _ _ _ _ _ ix_LT (pv 0) (@pe_int _ _ _ _) (fun _ _ => rfl)) (@pa_nil _) (by rfl)) (by decide) (by rfl) (by rfl))) (@pa_nil _) (by rfl))))) (@pss_nil _)) (@pss_cons _ _ _ _ _ (@ps_if _ _ _ _ _ _ _ _ (@pt_cmpR _ _ _ _ _ _ _ _ (op_eqA hr.units) (@pe_ix _ _ _ _ _ _ _ ix_LT (pv 0) (@pe_int _ _ _ _) (fun _ _ => rfl)) (@pe_str _ _ _ _) (nomark _)) (@pss_one _ _ _ (@ps_ret _ _ _ _ (@pe_lst _ _ _ _ (@pa_cons _ _ _ _ _ (@pe_bm _ _ _ _ _ _ _ _ _ _ _ _ PySem.F.plainAttrs_str PySem.F.slot_str_join PySem.F.type_str_join mt_joinT (@pe_str _ _ _ _) (@pa_cons _ _ _ _ _ (@pe_op _ _ _ _ _ _ _ _ op_addA (@pe_slice _ _ _ _ _ _ _ _ _ _ sl_any (pv 0) (@po_none _) (@po_some _ _ _ (@pe_int _ _ _ _))) (@pe_ix _ _ _ _ _ _ _ ix_LT (pv 0) (@pe_int _ _ _ _) (fun _ _ => rfl))) (@pa_nil _) (by rfl)) (by rfl) (by rfl) (by rfl) (by rfl) (by rfl)) (@pa_nil _) (by rfl))))) (@pss_nil _)) (@pss_cons _ _ _ _ _ (@ps_if _ _ _ _ _ _ _ _ (@pt_cmpR _ _ _ _ _ _ _ _ (op_neA hr.units) (@pe_ix _ _ _ _ _ _ _ ix_LT (pv 0) (@pe_int _ _ _ _) (fun _ _ => rfl)) (@pe_str _ _ _ _) (nomark _)) (@pss_one _ _ _ (@ps_ret _ _ _ _ (@pe_lst _ _ _ _ (@pa_cons _ _ _ _ _ (@pe_bm _ _ _ _ _ _ _ _ _ _ _ _ PySem.F.plainAttrs_str PySem.F.slot_str_join PySem.F.type_str_join mt_joinT (@pe_str _ _ _ _) (@pa_cons _ _ _ _ _ (@pe_op _ _ _ _ _ _ _ _ op_addA (@pe_tup _ _ _ _ _ (@pa_cons _ _ _ _ _ (@pe_ix _ _ _ _ _ _ _ ix_LT (pv 0) (@pe_int _ _ _ _) (fun _ _ => rfl)) (@pa_cons _ _ _ _ _ (@pe_callO _ _ _ _ _ _ _ _ _ _ o_time_text hr rfl (@pa_cons _ _ _ _ _ (@pe_ix _ _ _ _ _ _ _ ix_LT (pv 0) (@pe_int _ _ _ _) (fun _ _ => rfl)) (@pa_nil _) (by rfl)) (by decide) (by rfl) (by rfl)) (@pa_nil _) (by rfl)) (by rfl))) (@pe_ix _ _ _ _ _ _ _ ix_LT (pv 0) (@pe_int _ _ _ _) (fun _ _ => rfl))) (@pa_nil _) (by rfl)) (by rfl) (by rfl) (by rfl) (by rfl) (by rfl)) (@pa_nil _) (by rfl))))) (@pss_nil _)) (@pss_cons _ _ _ _ _ (@ps_set _ _ (i:=1) _ _ _ _ sc_row_texts.nd rfl (by first | exact Or.inl rfl | exact Or.inr rfl) (@pe_lst _ _ _ _ (@pa_cons _ _ _ _ _ (@pe_bm _ _ _ _ _ _ _ _ _ _ _ _ PySem.F.plainAttrs_str PySem.F.slot_str_join PySem.F.type_str_join mt_joinT (@pe_str _ _ _ _) (@pa_cons _ _ _ _ _ (@pe_op _ _ _ _ _ _ _ _ op_addA (@pe_slice _ _ _ _ _ _ _ _ _ _ sl_any (pv 0) (@po_none _) (@po_some _ _ _ (@pe_int _ _ _ _))) (@pe_ix _ _ _ _ _ _ _ ix_LT (pv 0) (@pe_int _ _ _ _) (fun _ _ => rfl))) (@pa_nil _) (by rfl)) (by rfl) (by rfl) (by rfl) (by rfl) (by rfl)) (@pa_nil _) (by rfl))) (by rfl) (by first | exact .inl rfl | exact .inr rfl | assumption)) (@pss_cons _ _ _ _ _ (@ps_for _ _ _ _ _ _ _ _ PassesOwn.never rfl (@pi_tup _ _ _ _ (@pe_ix _ _ _ _ _ _ _ ix_LT (pv 0) (@pe_int _ _ _ _) (fun _ _ => rfl))) (@pg_name _ _ (i:=2) _ sc_row_texts.nd rfl (by first | exact Or.inl rfl | exact Or.inr rfl) (by first | exact .inl rfl | exact .inr rfl | assumption)) (@pss_one _ _ _ (@ps_set _ _ (i:=1) _ _ _ _ sc_row_texts.nd rfl (by first | exact Or.inl rfl | exact Or.inr rfl) (@pe_op _ _ _ _ _ _ _ _ op_addA (pv 1) (@pe_callO _ _ _ _ _ _ _ _ _ _ o_row_texts hr rfl (@pa_cons _ _ _ _ _ (pv 2) (@pa_nil _) (by rfl)) (by decide) (by rfl) (by rfl))) (by rfl) (by first | exact .inl rfl | exact .inr rfl | assumption))) (by intro _; rfl)) (@pss_one _ _ _ (@ps_ret _ _ _ _ (@pe_op _ _ _ _ _ _ _ _ op_addA (pv 1) (@pe_lst _ _ _ _ (@pa_cons _ _ _ _ _ (@pe_str _ _ _ _) (@pa_nil _) (by rfl))))))))))),?_⟩
    try dsimp only [cxK_nox,cxK_of]
    have es:(Str.ofString " ").length = 1:=by decide +kernel
    have cap:∀ {ys:List Str},ys.length <= 40 -> (∀ s ∈ ys,WdS s) -> (ys.map (·.length)).sum + ys.length * (Str.ofString " ").length <= 16777216:=fun {ys} hl hs => by
      have h1:=sum_cap fun s h => (hs s h).2.2
      have h2:ys.length * 100 <= 40 * 100:=Nat.mul_le_mul_right _ hl
      rw [es]
      omega
    cases g with
    | one r =>
      replace hw:=hw.1
      have hro:TRowQ H v r:=hg
      cases r with
      | plain r =>
        cases r with
        | run a b t =>
          obtain ⟨p,u,rfl,hp,hu⟩:=hro
          obtain ⟨h1,h2,h3⟩:=(show PostS a /\ PostS b /\ TimR t from hw)
          have lok:=row_ln hE (r:=.plain (.run a b t)) hw
          have c1:=cap (ys:=["run",a,b]) (by show 3 <= 40; decide) (fun s hs => lok.2.1 s (by
            show s ∈ [("run":Str),a,b] ++ [tmS t]
            exact List.mem_append_left _ hs))
          have jl:(Str.join (Str.ofString " ") ["run",a,b]).length <= 10000:=join_len (ws:=["run",a,b]) (fun s hs => (lok.2.1 s (by
            show s ∈ [("run":Str),a,b] ++ [tmS t]
            exact List.mem_append_left _ hs)).2.2) (by show 3 <= 50; decide)
          have tl:=(tm_wd h3).2.2
          walk_at "go"
          refine s_3of4 hp fun l1 hl1 => ?_
          have t1:=Same.new (o:=.tup [.str "run",.str a,.str b]) hl1
          have g1:=upd_same (H:=H) (a:=l1) (o:=.tup [.str "run",.str a,.str b])
          generalize L2.upd H l1 (.tup [.str "run",.str a,.str b]) = H1 at t1 g1 ⊢
          have hp1:=t1 _ _ hp
          walk_at "go"
          refine ⟨_,l1,["run",a,b],rfl,rfl,g1,c1,?_⟩
          refine r_addS (by omega) ?_
          walk_at "go"
          refine ⟨u,t,rfl,hu.tk t1.tk,h3,?_⟩
          refine r_addS (by rw [len_app]; omega) ?_
          walk_at "go"
          refine r_lstK fun l2 hl2 => ?_
          rw [run_text a b (tmS t)]
          walk_at "go"
          exact q l2 _ (t1.free hl2) (t1.trans (Same.new hl2)) upd_same
        | path k t ps =>
          obtain ⟨p,u,z,rfl,hp,hu,hz⟩:=hro
          have lok:=row_ln hE (r:=.plain (.path k t ps)) hw
          obtain ⟨h1,h2,h3,h4,_⟩:=hw
          have c1:=cap (ys:=RKind.nm k :: tmS t :: ps) (by rw [List.length_cons,List.length_cons]; omega) (fun s hs => lok.2.1 s hs)
          cases k <;>
          . walk_at "go"
            refine ⟨u,t,rfl,hu,h2,?_⟩
            walk_at "go"
            refine r_tupK fun l1 hl1 => ?_
            walk_at "go"
            refine a_tup upd_same (upd_old hl1 hz) (by rw [List.length_map]; show 2 + _ <= _; omega) (List.cons_ne_nil _ _) (fun e => by rw [List.map_eq_nil_iff] at e; rw [e] at h3; exact absurd h3 (by decide)) fun l2 hl2 => ?_
            walk_at "go"
            refine ⟨_,l2,_ :: tmS t :: ps,rfl,rfl,upd_same,c1,?_⟩
            walk_at "go"
            refine r_lstK fun l3 hl3 => ?_
            walk_at "go"
            exact q l3 _ (((Same.new hl1).trans (Same.new hl2)).free hl3) (((Same.new hl1).trans (Same.new hl2)).trans (Same.new hl3)) upd_same
      | put nm cl as =>
        have lok:=row_ln hE (r:=.put nm cl as) hw
        obtain ⟨p,q',rfl,hp,hq⟩:=hro
        obtain ⟨w1,w2,w3,x,hx,rfl,wl⟩:=hw
        have c1:=cap (ys:="put" :: x.1 :: cl :: as) (by rw [List.length_cons,List.length_cons,List.length_cons]; omega) (fun s hs => lok.2.1 s hs)
        walk_at "go"
        refine s_3of4 hp fun l1 hl1 => ?_
        have t1:=Same.new (o:=.tup [.str "put",.str x.1,.str cl]) hl1
        have g1:=upd_same (H:=H) (a:=l1) (o:=.tup [.str "put",.str x.1,.str cl])
        generalize L2.upd H l1 (.tup [.str "put",.str x.1,.str cl]) = H1 at t1 g1 ⊢
        have hp1:=t1 _ _ hp
        walk_at "go"
        have has:as ≠ []:=fun e => by rw [e] at w3; exact absurd w3.1 (by decide)
        refine a_tup g1 (t1 _ _ hq) (by rw [List.length_map]; show 3 + _ <= _; omega) (List.cons_ne_nil _ _) (fun e => has (List.map_eq_nil_iff.mp e)) fun l2 hl2 => ?_
        have t2:=t1.trans (Same.new (o:=.tup ([.str "put",.str x.1,.str cl] ++ as.map V.str)) hl2)
        walk_at "go"
        refine ⟨_,l2,"put" :: x.1 :: cl :: as,rfl,rfl,upd_same,c1,?_⟩
        walk_at "go"
        refine r_lstK fun l3 hl3 => ?_
        walk_at "go"
        exact q l3 _ (t2.free hl3) (t2.trans (Same.new hl3)) upd_same
    | piece x =>
      have lok:=lines_ok (E:=E) hE hw
      obtain ⟨p,q',z,xs,rfl,hp,hq,hz,px⟩:=hg
      obtain ⟨w1,w2,w3,w4,⟨w5,w6,w7⟩,w8⟩:=hw.1
      have hxl:=Paired.length px
      have c1:=cap (ys:="piece" :: x.1 :: x.2.1) (by rw [List.length_cons,List.length_cons]; omega) (fun s hs => (lok ("piece" :: x.1 :: x.2.1) (List.mem_append_left _ (List.mem_cons_self ..))).2.1 s hs)
      walk_at "go"
      refine s_2of4 hp fun l1 hl1 => ?_
      have t1:=Same.new (o:=.tup [.str "piece",.str x.1]) hl1
      have g1:=upd_same (H:=H) (a:=l1) (o:=.tup [.str "piece",.str x.1])
      generalize L2.upd H l1 (.tup [.str "piece",.str x.1]) = H1 at t1 g1 ⊢
      have hp1:=t1 _ _ hp
      walk_at "go"
      have has:x.2.1 ≠ []:=fun e => by rw [e] at w5; exact absurd w5 (by decide)
      refine a_tup g1 (t1 _ _ hq) (by rw [List.length_map]; show 2 + _ <= _; omega) (List.cons_ne_nil _ _) (fun e => has (List.map_eq_nil_iff.mp e)) fun l2 hl2 => ?_
      have t2:=t1.trans (Same.new (o:=.tup ([.str "piece",.str x.1] ++ x.2.1.map V.str)) hl2)
      have g2:=upd_same (H:=H1) (a:=l2) (o:=.tup ([.str "piece",.str x.1] ++ x.2.1.map V.str))
      generalize L2.upd H1 l2 (.tup ([.str "piece",.str x.1] ++ x.2.1.map V.str)) = H2 at t2 g2 ⊢
      have hp2:=t2 _ _ hp
      walk_at "go"
      refine ⟨_,l2,"piece" :: x.1 :: x.2.1,rfl,rfl,g2,c1,?_⟩
      walk_at "go"
      refine r_lstK fun l3 hl3 => ?_
      have t3:=t2.trans (Same.new (o:=.lst [lnV ("piece" :: x.1 :: x.2.1)]) hl3)
      have g3:=upd_same (H:=H2) (a:=l3) (o:=.lst [lnV ("piece" :: x.1 :: x.2.1)])
      change (fun H3 => _) (L2.upd H2 l3 (.lst [lnV ("piece" :: x.1 :: x.2.1)]))
      generalize L2.upd H2 l3 (.lst [lnV ("piece" :: x.1 :: x.2.1)]) = H3 at t3 g3 ⊢
      have hp3:=t3 _ _ hp
      walk_at "go"
      refine r_tupIt (SqT.of (t3 _ _ hz)) ?_
      refine r_forTp (xs:=xs) (fun i σ G => ∃ o2 lf,σ = [some (.ref p),some (.ref lf),o2] /\ Same H G /\ H lf = none /\ G lf = some (.lst (((("piece":Str) :: x.1 :: x.2.1) :: (x.2.2.take i).map wdsT).map lnV))) ⟨_,_,rfl,t3,t2.free hl3,g3⟩ ?_ ?_ ?_
      . rintro i σ G _ ⟨o2,lf,rfl,sG,_⟩
        exact SqT.of (sG _ _ hz)
      . rintro i y σ G hy ⟨o2,lf,rfl,sG,hlf,glf⟩
        obtain ⟨r,hr0,rq⟩:=Paired.at px hy
        have hil:i < x.2.2.length:=(List.getElem?_eq_some_iff.mp hr0).1
        walk_at "go"
        refine ⟨y,r,E,rfl,TRowQ.tk rq sG.tk,w1 r (List.mem_of_getElem? hr0),hE,fun l4 G4 hl4 t4 g4 => ?_⟩
        refine a_lst (t4 _ _ glf) g4 (by simp; omega) fun l5 hl5 => ?_
        have t5:=sG.trans t4
        walk_at "go"
        refine ⟨_,l5,rfl,t5.trans (Same.new hl5),t5.free hl5,?_⟩
        rw [upd_same,List.take_add_one,hr0]
        simp
      rintro σ G ⟨o2,lf,rfl,sG,hlf,glf⟩
      rw [hxl,List.take_length] at glf
      walk_at "go"
      refine r_lstK fun l4 hl4 => ?_
      have t4:=Same.new (o:=.lst [V.str "end"]) hl4
      have g4:=upd_same (H:=G) (a:=l4) (o:=.lst [V.str "end"])
      generalize L2.upd G l4 (.lst [V.str "end"]) = G4 at t4 g4 ⊢
      refine a_lst (t4 _ _ glf) g4 (by simp; omega) fun l5 hl5 => ?_
      have t5:=sG.trans t4
      walk_at "go"
      refine q l5 _ (t5.free hl5) (t5.trans (Same.new hl5)) ?_
      rw [upd_same]
      show some (HO.lst ((((("piece":Str) :: x.1 :: x.2.1) :: x.2.2.map wdsT).map lnV) ++ [V.str "end"])) = some (HO.lst ((((("piece":Str) :: x.1 :: x.2.1) :: (x.2.2.map wdsT ++ [[("end":Str)]])).map lnV)))
      rw [List.map_cons,List.map_cons,List.map_append]
      rfl
set_option maxHeartbeats 0 in
theorem ok_next (T:Bl mg) (d:Df K mg "_law_next" s_next ["_law_number_here","_law_state","_law_names_here"]  ) (o_closed:Okf P w K mg base k "_law_closed" ["_law_state"] (spClosed K)) (o_row_texts:Okf P w K mg base k "_law_row_texts" ["_law_row_here"] (spRowTx K)) (o_row:Okf P w K mg base k "_law_row" ["_law_number_here","_law_names_here","_law_known"] (spRow74 K)):Okf P w K mg base (k + 1) "_law_next" ["_law_number_here","_law_state","_law_names_here"] (spNext K):=by
  refine Okf.of d sc_next (fun vs H Q E h => ?_) (fun f cdv A outer s H vs Q E hr h => ?_)
  . obtain ⟨c,d,lf,lk,ln,U,gs,ins,H0,n,rfl,_⟩:=h
    rfl
  . obtain ⟨c,d,lf,lk,ln,U,gs,ins,H0,n,rfl,hc,s0,hln,⟨hU8,hUp,hUn⟩,st,hn,q⟩:=h
    refine ⟨_,(@pss_cons _ _ _ _ _ (@ps_set _ _ (i:=3) _ _ _ _ sc_next.nd rfl (by first | exact Or.inl rfl | exact Or.inr rfl) (@pe_ix _ _ _ _ _ _ _ ix_LT (pv 2) (@pe_op _ _ _ _ _ _ _ _ op_mod (@pe_op _ _ _ _ _ _ _ _ op_fdivB (pv 0) (@pe_int _ _ _ _)) (@pe_int _ _ _ _)) (fun _ _ => rfl)) (by rfl) (by first | exact .inl rfl | exact .inr rfl | assumption)) (@pss_cons _ _ _ _ _ (@ps_set _ _ (i:=4) _ _ _ _ sc_next.nd rfl (by first | exact Or.inl rfl | exact Or.inr rfl) (@pe_dget _ _ _ _ _ _ hr.u1 (pv 1) (@pe_str _ _ _ _) (fun _ _ => rfl)) (by rfl) (by first | exact .inl rfl | exact .inr rfl | assumption)) (@pss_one _ _ _ (@ps_if _ _ _ _ _ _ _ _ (@PW.pt _ _ _ (@pw_and _ _ _ _ _ _ _ (@pt_cmpR _ _ _ _ _ _ _ _ op_isN2 (pv 4) (@pe_non _ _ _) (nomark _)) (@pw_and _ _ _ _ _ _ _ (@pt_cmpR _ _ _ _ _ _ _ _ (op_eqA hr.units) (@pe_op _ _ _ _ _ _ _ _ op_mod (pv 0) (@pe_int _ _ _ _)) (@pe_int _ _ _ _) (nomark _)) (@pw_and1 _ _ _ _ (@pt_cmpR _ _ _ _ _ _ _ _ op_notIn_seq (pv 3) (@pe_comp _ _ _ _ _ _ _ _ _ _ _ _ _ _ (@comp_ck _ _ (sc:=defScope s_next) (N:=["_law_number_here","_law_state","_law_names_here","_law_name","_law_inside","_law_many","_law_row_here"]) (tn:=["_law_told","_law_many"]) (names:=[]) (is:=[]) rfl rfl (by decide +kernel) (by decide +kernel) rfl (by decide +kernel) rfl (by decide +kernel) (by decide +kernel) (by decide +kernel)) rfl (@pi_list _ _ _ _ (@pe_dget _ _ _ _ _ _ hr.u1 (pv 1) (@pe_str _ _ _ _) (fun _ _ => rfl))) (fun _ _ _ _ => (@pg_tupc _ _ _ _ _ _ _ _ _ _ _ (n:=2) _ rfl (@pgs_cons _ _ _ _ _ (@pg_name _ _ (i:=0) _ (show (["_law_told","_law_many"]:List Str).Nodup by decide +kernel) rfl (Or.inl rfl) (Or.inr rfl)) (@pgs_cons _ _ _ _ _ (@pg_name _ _ (i:=1) _ (show (["_law_told","_law_many"]:List Str).Nodup by decide +kernel) rfl (Or.inl rfl) (Or.inr rfl)) (@pgs_nil _) (by rfl)) (by rfl)) (by rfl) (by rfl))) (fun _ _ _ _ => (pv 0)) (fun _ _ _ _ => (@pts_none _)) (by intro _; rfl)) (by with_unfolding_all rfl)))))) (@pss_cons _ _ _ _ _ (@ps_set _ _ (i:=5) _ _ _ _ sc_next.nd rfl (by first | exact Or.inl rfl | exact Or.inr rfl) (@pe_op _ _ _ _ _ _ _ _ op_addA (@pe_int _ _ _ _) (@pe_op _ _ _ _ _ _ _ _ op_mod (@pe_op _ _ _ _ _ _ _ _ op_fdivB (pv 0) (@pe_int _ _ _ _)) (@pe_ix _ _ _ _ _ _ _ ix_LT (@pe_lst _ _ _ _ (@pa_cons _ _ _ _ _ (@pe_int _ _ _ _) (@pa_cons _ _ _ _ _ (@pe_int _ _ _ _) (@pa_cons _ _ _ _ _ (@pe_int _ _ _ _) (@pa_nil _) (by rfl)) (by rfl)) (by rfl))) (@pe_op _ _ _ _ _ _ _ _ op_mod (@pe_op _ _ _ _ _ _ _ _ op_fdivB (pv 0) (@pe_int _ _ _ _)) (@pe_int _ _ _ _)) (fun _ _ => rfl)))) (by rfl) (by first | exact .inl rfl | exact .inr rfl | assumption)) (@pss_cons _ _ _ _ _ (@ps_dput _ _ _ _ _ _ _ _ _ hr.u1 (pv 1) (@pe_str _ _ _ _) (@pe_lst _ _ _ _ (@pa_cons _ _ _ _ _ (pv 3) (@pa_cons _ _ _ _ _ (@pe_callTy _ _ _ _ _ _ _ _ _ call_tuple_of rfl T.z_tuple bt_tuple (@pa_cons _ _ _ _ _ (@pe_comp _ _ _ _ _ _ _ _ _ _ _ _ _ _ (@comp_ck _ _ (sc:=defScope s_next) (N:=["_law_number_here","_law_state","_law_names_here","_law_name","_law_inside","_law_many","_law_row_here"]) (tn:=["_law_j"]) (names:=["_law_number_here","_law_names_here"]) (is:=[0,2]) rfl rfl (by decide +kernel) (by decide +kernel) rfl (by decide +kernel) rfl (by decide +kernel) (by decide +kernel) (by decide +kernel)) rfl (@pi_range1 _ _ _ _ _ _ rfl T.z_range (@pa_cons _ _ _ _ _ (pv 5) (@pa_nil _) (by rfl)) (by rfl)) (fun _ _ _ _ => (@pg_name _ _ (i:=0) _ (show (["_law_j","_law_number_here","_law_names_here"]:List Str).Nodup by decide +kernel) rfl (Or.inl rfl) (Or.inr rfl))) (fun _ _ _ _ => (@pe_ix _ _ _ _ _ _ _ ix_LTc (pv 2) (@pe_op _ _ _ _ _ _ _ _ op_mod (@pe_op _ _ _ _ _ _ _ _ op_addAc (@pe_op _ _ _ _ _ _ _ _ op_fdivB (pv 1) (@pe_int _ _ _ _)) (pv 0)) (@pe_int _ _ _ _)) (fun _ _ => rfl))) (fun _ _ _ _ => (@pts_none _)) (by intro _; rfl)) (@pa_nil _) (by rfl)) (by decide) (by decide) (by rfl) (by rfl)) (@pa_cons _ _ _ _ _ (@pe_lst _ _ _ _ (@pa_nil _)) (@pa_nil _) (by rfl)) (by rfl)) (by rfl))) rfl) (@pss_one _ _ _ (@ps_dput _ _ _ _ _ _ _ _ _ hr.u1 (pv 1) (@pe_str _ _ _ _) (@pe_op _ _ _ _ _ _ _ _ op_addA (@pe_dget _ _ _ _ _ _ hr.u1 (pv 1) (@pe_str _ _ _ _) (fun _ _ => rfl)) (@pe_int _ _ _ _)) rfl)))) (@pss_one _ _ _ (@ps_if _ _ _ _ _ _ _ _ (@PW.pt _ _ _ (@pw_and _ _ _ _ _ _ _ (@pt_cmpR _ _ _ _ _ _ _ _ op_notN2 (pv 4) (@pe_non _ _ _) (nomark _)) (@pw_and _ _ _ _ _ _ _ (@pt_cmpR _ _ _ _ _ _ _ _ (op_eqA hr.units) (@pe_op _ _ _ _ _ _ _ _ op_mod (pv 0) (@pe_int _ _ _ _)) (@pe_int _ _ _ _) (nomark _)) (@pw_and1 _ _ _ _ (@pt_cmpR _ _ _ _ _ _ _ _ (op_neA hr.units) (@pe_ix _ _ _ _ _ _ _ ix_LT (pv 4) (@pe_int _ _ _ _) (fun _ _ => rfl)) (@pe_lst _ _ _ _ (@pa_nil _)) (nomark _)))))) (@pss_one _ _ _ (@ps_expr _ _ _ _ (@pe_callO _ _ _ _ _ _ _ _ _ _ o_closed hr rfl (@pa_cons _ _ _ _ _ (pv 1) (@pa_nil _) (by rfl)) (by decide) (by rfl) (by rfl)) (by rfl))) (@pss_cons _ _ _ _ _ (@ps_set _ _ (i:=6) _ _ _ _ sc_next.nd rfl (by first | exact Or.inl rfl | exact Or.inr rfl) (@pe_callO _ _ _ _ _ _ _ _ _ _ o_row hr rfl (@pa_cons _ _ _ _ _ (@pe_op _ _ _ _ _ _ _ _ op_fdivB (pv 0) (@pe_int _ _ _ _)) (@pa_cons _ _ _ _ _ (pv 2) (@pa_cons _ _ _ _ _ (@pe_dget _ _ _ _ _ _ hr.u1 (pv 1) (@pe_str _ _ _ _) (fun _ _ => rfl)) (@pa_nil _) (by rfl)) (by rfl)) (by rfl)) (by decide) (by rfl) (by rfl)) (by rfl) (by first | exact .inl rfl | exact .inr rfl | assumption)) (@pss_cons _ _ _ _ _ (@ps_dput _ _ _ _ _ _ _ _ _ hr.u1 (pv 1) (@pe_str _ _ _ _) (@pe_op _ _ _ _ _ _ _ _ op_addA (@pe_op _ _ _ _ _ _ _ _ op_addA (@pe_dget _ _ _ _ _ _ hr.u1 (pv 1) (@pe_str _ _ _ _) (fun _ _ => rfl)) (@pe_callB _ _ _ _ _ _ _ _ _ c_len rfl T.z_len bt_len (@pa_cons _ _ _ _ _ (@pe_ix _ _ _ _ _ _ _ ix_LT (@pe_callO _ _ _ _ _ _ _ _ _ _ o_row_texts hr rfl (@pa_cons _ _ _ _ _ (pv 6) (@pa_nil _) (by rfl)) (by decide) (by rfl) (by rfl)) (@pe_int _ _ _ _) (fun _ _ => rfl)) (@pa_nil _) (by rfl)) (by decide) (by decide) (by rfl) (by rfl))) (@pe_int _ _ _ _)) rfl) (@pss_one _ _ _ (@ps_if _ _ _ _ _ _ _ _ (@pt_cmpR _ _ _ _ _ _ _ _ op_isN2 (pv 4) (@pe_non _ _ _) (nomark _)) (@pss_one _ _ _ (@ps_expr _ _ _ _ (@pe_bm _ _ _ _ _ _ _ _ _ _ _ _ PySem.F.plainAttrs_list PySem.F.slot_list_append PySem.F.type_list_append mt_append (@pe_dget _ _ _ _ _ _ hr.u1 (pv 1) (@pe_str _ _ _ _) (fun _ _ => rfl)) (@pa_cons _ _ _ _ _ (pv 6) (@pa_nil _) (by rfl)) (by rfl) (by rfl) (by rfl) (by rfl) (by rfl)) (by rfl))) (@pss_one _ _ _ (@ps_expr _ _ _ _ (@pe_bm _ _ _ _ _ _ _ _ _ _ _ _ PySem.F.plainAttrs_list PySem.F.slot_list_append PySem.F.type_list_append mt_append (@pe_ix _ _ _ _ _ _ _ ix_LT (pv 4) (@pe_int _ _ _ _) (fun _ _ => rfl)) (@pa_cons _ _ _ _ _ (pv 6) (@pa_nil _) (by rfl)) (by rfl) (by rfl) (by rfl) (by rfl) (by rfl)) (by rfl))))))))))))),?_⟩
    try dsimp only [cxK_nox,cxK_of]
    have hwE:=wf_env (E:=[]) trivial st.wf
    have h8:=env8 hU8 hwE st.nm
    have hps8:∀ p ∈ envG [] gs,1 <= p.2.1.length /\ p.2.1.length <= 8:=fun p hp => ⟨(hwE.at hp).2.2.2.1,(hwE.at hp).2.2.2.2.1⟩
    have st':=st
    obtain ⟨⟨vi,u,hd,hins⟩,ne,⟨fd,ff,fk⟩,⟨xs,hxs,px⟩,hkn,wf,nm,le⟩:=st
    have hxl:=Paired.length px
    have hdl:∀ {b:Addr} {zs:List V},H b = some (.lst zs) -> b ≠ d:=fun h e => by rw [e,hd] at h; cases h
    have hgl:gs.length <= n:=by have:=ln_le gs; omega
    walk_at "go"
    have i0:0 <= c.fdiv 9 % 8 /\ c.fdiv 9 % 8 < 8:=by omega
    obtain ⟨s1,ms1,e1⟩:=pickS' (nm:=U) (i:=c.fdiv 9 % 8) i0.1 (by omega)
    refine r_ixl (s0 _ _ hln) e1 ?_
    walk_at "go"
    refine r_dGs (.inl hd) st_inside ?_
    cases ins with
    | none =>
      cases (show vi = .non from hins)
      refine r_gname ?_
      refine r_nx ?_
      refine r_ifJ (fun GX => Same H GX) ?_ ?_
      . intro GX sX
        walk_at "go"
        refine r_dGs (.inl (sX _ _ hd)) st_known ?_
        walk_at "go"
        refine ⟨_,ln,U,lk,envG [] gs,rfl,fdiv_nn hc (by decide),sX _ _ (s0 _ _ hln),hU8,hUp,hkn.sm sX,h8,hps8,fun v G r sG rq wr => ?_⟩
        have sXG:=sX.trans sG
        walk_at "go"
        refine r_dGs (.inl (sXG _ _ hd)) st_used ?_
        walk_at "go"
        refine ⟨v,.one r,envG [] gs,rfl,rq,⟨wr,trivial⟩,hwE,fun l G2 hl s2 gl => ?_⟩
        have hz:=(row_ln hwE wr).2.2
        replace gl:G2 l = some (.lst [.str (Str.join sp1 (wdsT r))]):=gl
        generalize Str.join sp1 (wdsT r) = z at hz gl
        walk_at "go"
        refine r_lens (by rw [sizeLine_eq]; omega) ?_
        walk_at "go"
        have sX2:=sXG.trans s2
        have hd2:=sX2 _ _ hd
        refine r_dPs hd2 (by show 4 <= 1000; decide) ?_
        rw [st_pus]
        generalize u + (z.length:Int) + 3 = u'
        have k3:Kp d G2 (L2.upd G2 d (.dK (stK lf lk .non u'))):=Kp.upd
        have tk3:=TK.dic (o:=.dK (stK lf lk .non u')) hd2
        have g3:=upd_same (H:=G2) (a:=d) (o:=.dK (stK lf lk .non u'))
        generalize L2.upd G2 d (.dK (stK lf lk .non u')) = G3 at k3 tk3 g3 ⊢
        have rq3:TRowQ G3 v r:=(rq.tk s2.tk).tk tk3
        have tkX:=sX2.tk.trans tk3
        walk_at "go"
        refine r_dGs (.inl g3) st_found ?_
        have hxs3:=k3 _ _ (hdl hxs) (sX2 _ _ hxs)
        walk_at "go"
        refine r_app hxs3 (by omega) ?_
        have k4:Kp lf G3 (L2.upd G3 lf (.lst (xs ++ [v]))):=Kp.upd
        have tk4:=TK.lst (o:=.lst (xs ++ [v])) hxs3
        have g4:=upd_same (H:=G3) (a:=lf) (o:=.lst (xs ++ [v]))
        generalize L2.upd G3 lf (.lst (xs ++ [v])) = G4 at k4 tk4 g4 ⊢
        have eE:envG [] (gs ++ [.one r]) = envG [] gs:=env_snoc gs [] (.one r)
        walk_at "go"
        refine q G4 (gs ++ [.one r]) none (fun b o h => ?_) ⟨⟨_,_,k4 _ _ (hdl hxs).symm g3,rfl⟩,ne,⟨fd,ff,fk⟩,⟨_,g4,?_⟩,?_,?_,?_,?_⟩
        . exact k4 _ _ (ne_of_none h ff) (k3 _ _ (ne_of_none h fd) (sX2 _ _ (s0 _ _ h)))
        . exact Pd.snoc (Pd.imp px fun v b f => (f.tk tkX).tk tk4) (show GRowQ G4 v (.one r) from rq3.tk tk4)
        . rw [eE]
          obtain ⟨ks,hks,pk⟩:=hkn
          exact ⟨ks,k4 _ _ ne.symm (k3 _ _ (hdl hks) (sX2 _ _ hks)),Pd.imp pk fun v b ⟨a,e,f⟩ => ⟨a,e,tk4 _ _ (tkX _ _ f)⟩⟩
        . exact (wfg_snoc gs [] (.one r)).mpr ⟨wf,wr,trivial⟩
        . rw [eE]
          exact nm
        . rw [ln_snoc]
          show lnN gs + (0 + 1) + 0 <= _
          have:lnN gs + 0 <= n:=le
          omega
      intro NB hNB
      walk_at "go"
      refine i_d (fun c1 => ?_) (fun c1 => ?_)
      . walk_at "go"
        refine r_dGs (.inl hd) st_known ?_
        obtain ⟨ks,hks,pk⟩:=id hkn
        have hkl:=Paired.length pk
        rw [List.length_reverse] at hkl
        refine r_listK (SqL.of hks) ?_
        refine r_compQ (xs:=ks) (by omega) (fun acc i ys G => Kp acc H G /\ ys = (((envG [] gs).reverse.take i).map (·.1)).map V.str) ?_ ?_ ?_ ?_
        . intro acc h0
          exact ⟨Kp.new h0,rfl⟩
        . rintro acc i ys G h0 hi ⟨kp,_⟩
          exact SqL.of (kp _ _ (ne_of_none hks h0) hks)
        . rintro acc i ys G y h0 hy hyl hG ⟨kp,rfl⟩
          obtain ⟨p,hp0,a,rfl,ha⟩:=Paired.at pk hy
          refine ⟨a,_,_,rfl,kp _ _ (ne_of_none ha h0) ha,?_⟩
          walk_at "go"
          refine c_next (by have:=(List.getElem?_eq_some_iff.mp hy).1; exact this) hyl hG ⟨kp.trans Kp.upd,?_⟩
          rw [List.take_add_one,hp0,List.map_append,List.map_append]
          rfl
        . rintro acc ys G h0 hG hyl ⟨kp,rfl⟩
          rw [hkl,← List.length_reverse,List.take_length] at hG
          have sX:Same H G:=fun b o h => kp _ _ (ne_of_none h h0) h
          refine r_ninS hG ?_
          by_cases hm:s1 ∈ (envG [] gs).reverse.map (·.1)
          . rw [decide_eq_true hm]
            walk_at "go"
            exact hNB _ sX
          . rw [decide_eq_false hm]
            walk_at "go"
            refine r_lstK fun l4 hl4 => ?_
            have t4:=Same.new (o:=.lst [V.int 2,V.int 3,V.int 8]) hl4
            have hl4':=upd_same (H:=G) (a:=l4) (o:=.lst [V.int 2,V.int 3,V.int 8])
            generalize L2.upd G l4 (.lst [V.int 2,V.int 3,V.int 8]) = G2 at t4 hl4' ⊢
            walk_at "go"
            obtain ⟨t,et,ht⟩:=at3 (x0:=2) (x1:=3) (x2:=8) (fun z => 0 < z /\ z <= 8) (by decide) (by decide) (by decide) (c.fdiv 576 % 3) (Int.emod_nonneg _ (by decide)) (Int.emod_lt_of_pos _ (by decide))
            refine r_ixl hl4' et ?_
            refine r_mod ht.1 ?_
            have m0:=Int.emod_nonneg (c.fdiv 72) (show t ≠ 0 by omega)
            have m1:=Int.emod_lt_of_pos (c.fdiv 72) ht.1
            obtain ⟨m,hm1,em⟩:∃ m:Nat,(1 <= m /\ m <= 8) /\ 1 + c.fdiv 72 % t = (m:Int):=⟨(1 + c.fdiv 72 % t).toNat,by omega,by omega⟩
            walk_at "go"
            rw [em]
            clear em
            refine r_rng1K (by omega) (by omega) ?_
            have sX2:=sX.trans t4
            have hln2:=sX2 _ _ (s0 _ _ hln)
            refine r_compR (n:=(m:Int).toNat) (by omega) (fun acc k ys G' => Kp acc G2 G' /\ ∃ ps:List Str,ys = ps.map V.str /\ ps.length = k /\ ∀ j,j < k -> ∃ s,ps[j]? = some s /\ U[((c.fdiv 1728 + (j:Int)) % 8).toNat]? = some s) ?_ ?_ ?_
            . intro acc h0
              exact ⟨Kp.new h0,[],rfl,rfl,fun j h => absurd h (Nat.not_lt_zero _)⟩
            . rintro acc k ys G' h0 hk hyl hG' ⟨kp',ps,rfl,hpl,hps⟩
              walk_at "go"
              obtain ⟨s3,hs3⟩:∃ s,U[((c.fdiv 1728 + (k:Int)) % 8).toNat]? = some s:=⟨_,List.getElem?_eq_getElem (by omega)⟩
              refine r_ixl (kp' _ _ (ne_of_none hln2 h0) hln2) (v:=.str s3) ?_ ?_
              . rw [Int.zero_add,show (c.fdiv 1728 + (k:Int)) % 8 = ((((c.fdiv 1728 + (k:Int)) % 8).toNat:Nat):Int) by omega]
                exact atI_nat (by rw [List.getElem?_map,hs3]; rfl)
              refine c_next hk hyl hG' ⟨kp'.trans Kp.upd,ps ++ [s3],by simp,by rw [List.length_append,hpl]; rfl,fun j hj => ?_⟩
              rcases Nat.lt_or_ge j k with h | h
              . obtain ⟨s,h1,h2⟩:=hps j h
                exact ⟨s,by rw [List.getElem?_append_left (by omega)]; exact h1,h2⟩
              . have:j = k:=by omega
                subst this
                exact ⟨s3,by rw [List.getElem?_append_right (by omega),hpl,Nat.sub_self]; rfl,hs3⟩
            rintro acc ys G' h0' hG' hyl ⟨kp',ps,rfl,hpl,hps⟩
            rw [Int.toNat_natCast] at hpl hps
            have sG':Same G2 G':=fun b o h => kp' _ _ (ne_of_none h h0') h
            walk_at "go"
            refine ⟨acc,_,rfl,.inl ⟨SqL.of hG',fun qa hqa => ?_⟩⟩
            have t5:=sG'.trans (Same.new (o:=.tup (ps.map V.str)) hqa)
            have g5:=upd_same (H:=G') (a:=qa) (o:=.tup (ps.map V.str))
            generalize L2.upd G' qa (.tup (ps.map V.str)) = G5 at t5 g5 ⊢
            walk_at "go"
            refine r_lstK fun ls hls => ?_
            have t6:=Same.new (o:=.lst []) hls
            have g6:=upd_same (H:=G5) (a:=ls) (o:=.lst [])
            generalize L2.upd G5 ls (.lst []) = G6 at t6 g6 ⊢
            walk_at "go"
            refine r_lstK fun li hli => ?_
            have t7:=Same.new (o:=.lst [.str s1,.ref qa,.ref ls]) hli
            have g7:=upd_same (H:=G6) (a:=li) (o:=.lst [.str s1,.ref qa,.ref ls])
            generalize L2.upd G6 li (.lst [.str s1,.ref qa,.ref ls]) = G7 at t7 g7 ⊢
            have u5:=sX2.trans t5
            have u6:=u5.trans t6
            have u7:=u6.trans t7
            have hd7:=u7 _ _ hd
            walk_at "go"
            refine r_dPs hd7 (by show 4 <= 1000; decide) ?_
            rw [st_pin]
            have k8:Kp d G7 (L2.upd G7 d (.dK (stK lf lk (.ref li) u))):=Kp.upd
            have tk8:=TK.dic (o:=.dK (stK lf lk (.ref li) u)) hd7
            have g8:=upd_same (H:=G7) (a:=d) (o:=.dK (stK lf lk (.ref li) u))
            generalize L2.upd G7 d (.dK (stK lf lk (.ref li) u)) = G8 at k8 tk8 g8 ⊢
            walk_at "go"
            refine r_dGs (.inl g8) st_used ?_
            walk_at "go"
            refine r_dPs g8 (by show 4 <= 1000; decide) ?_
            rw [st_pus]
            have k9:Kp d G8 (L2.upd G8 d (.dK (stK lf lk (.ref li) (u + 100)))):=Kp.upd
            have tk9:=TK.dic (o:=.dK (stK lf lk (.ref li) (u + 100))) g8
            have g9:=upd_same (H:=G8) (a:=d) (o:=.dK (stK lf lk (.ref li) (u + 100)))
            generalize L2.upd G8 d (.dK (stK lf lk (.ref li) (u + 100))) = G9 at k9 tk9 g9 ⊢
            walk_at "go"
            have kd:∀ b o,b ≠ d -> G7 b = some o -> G9 b = some o:=fun b o nb h => k9 _ _ nb (k8 _ _ nb h)
            have nsd:ls ≠ d:=fun e => by rw [e] at hls; rw [u5 _ _ hd] at hls; cases hls
            have nid:li ≠ d:=fun e => by rw [e] at hli; rw [u6 _ _ hd] at hli; cases hli
            have tkX:=u7.tk.trans (tk8.trans tk9)
            refine q G9 gs (some (s1,ps,[])) (fun b o h => kd _ _ (ne_of_none h fd) (u7 _ _ (s0 _ _ h))) ⟨⟨_,_,g9,⟨⟨li,qa,ls,[],rfl,kd _ _ nid g7,(tk8.trans tk9) _ _ (t7 _ _ (t6 _ _ g5)),kd _ _ nsd (t7 _ _ g6),.nil,(s0.trans u6).free hli,(s0.trans u5).free hls,(ne_of_none (u6 _ _ hxs) hli).symm,(ne_of_none (u6 _ _ hks) hli).symm,(ne_of_none g6 hli).symm,(ne_of_none (u5 _ _ hxs) hls).symm,(ne_of_none (u5 _ _ hks) hls).symm⟩,ms1,fun p hp e => ?_,pick_nd hU8 hUn _ hm1.2 hpl hps,by show 1 <= ps.length /\ ps.length <= 8; omega,(fun _ h => nomatch h),fun s hs => ?_⟩⟩,ne,⟨fd,ff,fk⟩,⟨xs,kd _ _ (hdl hxs) (u7 _ _ hxs),Pd.imp px fun v b f => f.tk tkX⟩,⟨ks,kd _ _ (hdl hks) (u7 _ _ hks),Pd.imp pk fun v b ⟨a,e,f⟩ => ⟨a,e,tkX _ _ f⟩⟩,wf,nm,?_⟩
            . exact hm (List.mem_map.mpr ⟨p,List.mem_reverse.mpr hp,e⟩)
            . rcases List.mem_cons.mp hs with rfl | hs
              . exact hUp _ ms1
              . obtain ⟨j,hj⟩:=List.getElem?_of_mem hs
                have hjl:j < ps.length:=(List.getElem?_eq_some_iff.mp hj).1
                obtain ⟨s',h1,h2⟩:=hps j (by omega)
                rw [hj] at h1
                cases h1
                exact hUp _ (List.mem_of_getElem? h2)
            . show lnN gs + (0 + 1) <= _
              have:lnN gs + 0 <= n:=le
              omega
      . walk_at "go"
        exact hNB _ (Same.refl _)
    | some x =>
      obtain ⟨⟨li,qa,ls,ys,rfl,hli,hqa,hls,prs,f1,f2,n1,n2,n3,n4,n5⟩,inm,inw,ind',ile,iwf,ipb⟩:=(show InsI H0 H d lf lk U (envG [] gs) vi x from hins)
      have hyl:=Paired.length prs
      have le2:lnN gs + (x.2.2.length + 1) <= n:=le
      refine r_gname ?_
      refine r_nx ?_
      refine r_ifJ (fun GX => GX = H) ?_ ?_
      rotate_left
      . intro NB hNB
        walk_at "go"
        exact hNB _ rfl
      rintro GX rfl
      refine r_ifJ (fun GY => Same GX GY) ?_ ?_
      . intro GY sX
        walk_at "go"
        refine r_dGs (.inl (sX _ _ hd)) st_known ?_
        walk_at "go"
        refine ⟨_,ln,U,lk,envG [] gs,rfl,fdiv_nn hc (by decide),sX _ _ (s0 _ _ hln),hU8,hUp,hkn.sm sX,h8,hps8,fun v G r sG rq wr => ?_⟩
        have sXG:=sX.trans sG
        walk_at "go"
        refine r_dGs (.inl (sXG _ _ hd)) st_used ?_
        walk_at "go"
        refine ⟨v,.one r,envG [] gs,rfl,rq,⟨wr,trivial⟩,hwE,fun l G2 hl s2 gl => ?_⟩
        have hz:=(row_ln hwE wr).2.2
        replace gl:G2 l = some (.lst [.str (Str.join sp1 (wdsT r))]):=gl
        generalize Str.join sp1 (wdsT r) = z at hz gl
        walk_at "go"
        refine r_lens (by rw [sizeLine_eq]; omega) ?_
        walk_at "go"
        have sX2:=sXG.trans s2
        have hd2:=sX2 _ _ hd
        refine r_dPs hd2 (by show 4 <= 1000; decide) ?_
        rw [st_pus]
        generalize u + (z.length:Int) + 3 = u'
        have k3:Kp d G2 (L2.upd G2 d (.dK (stK lf lk (.ref li) u'))):=Kp.upd
        have tk3:=TK.dic (o:=.dK (stK lf lk (.ref li) u')) hd2
        have g3:=upd_same (H:=G2) (a:=d) (o:=.dK (stK lf lk (.ref li) u'))
        generalize L2.upd G2 d (.dK (stK lf lk (.ref li) u')) = G3 at k3 tk3 g3 ⊢
        have rq3:TRowQ G3 v r:=(rq.tk s2.tk).tk tk3
        have tkX:=sX2.tk.trans tk3
        walk_at "go"
        have nid:li ≠ d:=hdl hli
        have nsd:ls ≠ d:=hdl hls
        have hli3:=k3 _ _ nid (sX2 _ _ hli)
        have hls3:=k3 _ _ nsd (sX2 _ _ hls)
        refine r_ixl hli3 (show atI [V.str x.1,.ref qa,.ref ls] ((2:Nat):Int) = some (.ref ls) from atI_nat rfl) ?_
        walk_at "go"
        refine r_app hls3 (by omega) ?_
        have k4:Kp ls G3 (L2.upd G3 ls (.lst (ys ++ [v]))):=Kp.upd
        have tk4:=TK.lst (o:=.lst (ys ++ [v])) hls3
        have g4:=upd_same (H:=G3) (a:=ls) (o:=.lst (ys ++ [v]))
        generalize L2.upd G3 ls (.lst (ys ++ [v])) = G4 at k4 tk4 g4 ⊢
        walk_at "go"
        refine q G4 gs (some (x.1,x.2.1,x.2.2 ++ [r])) (fun b o h => ?_) ⟨⟨_,_,k4 _ _ nsd.symm g3,⟨⟨li,qa,ls,_,rfl,k4 _ _ n3 hli3,(tkX.trans tk4) _ _ hqa,g4,?_,f1,f2,n1,n2,n3,n4,n5⟩,inm,inw,ind',ile,?_,ipb⟩⟩,ne,⟨fd,ff,fk⟩,⟨xs,k4 _ _ n4.symm (k3 _ _ (hdl hxs) (sX2 _ _ hxs)),Pd.imp px fun v b f => (f.tk tkX).tk tk4⟩,?_,wf,nm,?_⟩
        . exact k4 _ _ (ne_of_none h f2) (k3 _ _ (ne_of_none h fd) (sX2 _ _ (s0 _ _ h)))
        . exact Pd.snoc (Pd.imp prs fun v b f => (f.tk tkX).tk tk4) (rq3.tk tk4)
        . intro r' hr'
          rcases List.mem_append.mp hr' with h | h
          . exact iwf r' h
          . rw [List.mem_singleton.mp h]
            exact wr
        . obtain ⟨ks,hks,pk⟩:=hkn
          exact ⟨ks,k4 _ _ n5.symm (k3 _ _ (hdl hks) (sX2 _ _ hks)),Pd.imp pk fun v b ⟨a,e,f⟩ => ⟨a,e,tk4 _ _ (tkX _ _ f)⟩⟩
        . show lnN gs + ((x.2.2 ++ [r]).length + 1) <= _
          have:lnN gs + (x.2.2.length + 1) <= n:=le
          rw [List.length_append]
          show _ + (_ + 1 + 1) <= _
          omega
      intro NB hNB
      walk_at "go"
      refine i_d (fun c1 => ?_) (fun c1 => ?_)
      . walk_at "go"
        refine r_lstK fun le1 hle1 => ?_
        have sX:=Same.new (o:=.lst []) hle1
        have ge:=upd_same (H:=GX) (a:=le1) (o:=.lst [])
        generalize L2.upd GX le1 (.lst []) = GZ at sX ge ⊢
        refine n_rs0 (sX _ _ hls) (Pd.imp prs fun v b f => f.tk sX.tk) ge ?_
        by_cases hr0:x.2.2 = []
        . rw [show (!x.2.2.isEmpty) = false by rw [hr0]; rfl]
          walk_at "go"
          exact hNB _ sX
        . rw [show (!x.2.2.isEmpty) = true by cases e:x.2.2 with | nil => exact absurd e hr0 | cons a b => rfl]
          walk_at "go"
          refine ⟨d,lf,lk,U,gs,x,H0,n,rfl,s0.trans sX,st'.sm sX,hr0,by omega,fun H' s' st2 => ?_⟩
          walk_at "go"
          exact q H' _ _ s' st2
      . walk_at "go"
        exact hNB _ (Same.refl _)
set_option maxHeartbeats 0 in
theorem ok_built (T:Bl mg) (d:Df K mg "_law_built" s_built ["_law_script","_law_first","_law_end"]  ) (o_closed:Okf P w K mg base k "_law_closed" ["_law_state"] (spClosed K)) (o_number:Okf P w K mg base k "_law_number" ["_law_script","_law_k"] (spNumW K)) (o_next:Okf P w K mg base k "_law_next" ["_law_number_here","_law_state","_law_names_here"] (spNext K)) (o_names:Okf P w K mg base k "_law_names" ["_law_script"] (spNames74 K)):Okf P w K mg base (k + 1) "_law_built" ["_law_script","_law_first","_law_end"] (spBuilt K):=by
  refine Okf.of d sc_built (fun vs H Q E h => ?_) (fun f cdv A outer s H vs Q E hr h => ?_)
  . obtain ⟨a,ns,m,rfl,_⟩:=h
    rfl
  . obtain ⟨a,ns,m,rfl,hS,h63,hm,q⟩:=h
    refine ⟨_,(@pss_cons _ _ _ _ _ (@ps_set _ _ (i:=3) _ _ _ _ sc_built.nd rfl (by first | exact Or.inl rfl | exact Or.inr rfl) (@pe_callO _ _ _ _ _ _ _ _ _ _ o_names hr rfl (@pa_cons _ _ _ _ _ (pv 0) (@pa_nil _) (by rfl)) (by decide) (by rfl) (by rfl)) (by rfl) (by first | exact .inl rfl | exact .inr rfl | assumption)) (@pss_cons _ _ _ _ _ (@ps_set _ _ (i:=4) _ _ _ _ sc_built.nd rfl (by first | exact Or.inl rfl | exact Or.inr rfl) (@pe_disp _ _ _ _ _ (@pps_cons _ _ _ _ _ _ _ _ _ (@pe_str _ _ _ _) (@pe_lst _ _ _ _ (@pa_nil _)) (@pps_cons _ _ _ _ _ _ _ _ _ (@pe_str _ _ _ _) (@pe_lst _ _ _ _ (@pa_nil _)) (@pps_cons _ _ _ _ _ _ _ _ _ (@pe_str _ _ _ _) (@pe_non _ _ _) (@pps_cons _ _ _ _ _ _ _ _ _ (@pe_str _ _ _ _) (@pe_int _ _ _ _) (@pps_nil _ _))))) rfl rfl (List.cons_ne_nil _ _) (Nat.le_of_ble_eq_true rfl)) (by rfl) (by first | exact .inl rfl | exact .inr rfl | assumption)) (@pss_cons _ _ _ _ _ (@ps_for _ _ _ _ _ _ _ _ PassesOwn.never rfl (@pi_range2 _ _ _ _ _ _ _ rfl T.z_range (@pa_cons _ _ _ _ _ (pv 1) (@pa_cons _ _ _ _ _ (pv 2) (@pa_nil _) (by rfl)) (by rfl)) (by rfl) (by rfl)) (@pg_name _ _ (i:=5) _ sc_built.nd rfl (by first | exact Or.inl rfl | exact Or.inr rfl) (by first | exact .inl rfl | exact .inr rfl | assumption)) (@pss_one _ _ _ (@ps_if _ _ _ _ _ _ _ _ (@pt_cmpR _ _ _ _ _ _ _ _ op_lt (@pe_dget _ _ _ _ _ _ hr.u1 (pv 4) (@pe_str _ _ _ _) (fun _ _ => rfl)) (@pe_int _ _ _ _) (nomark _)) (@pss_one _ _ _ (@ps_expr _ _ _ _ (@pe_callO _ _ _ _ _ _ _ _ _ _ o_next hr rfl (@pa_cons _ _ _ _ _ (@pe_callO _ _ _ _ _ _ _ _ _ _ o_number hr rfl (@pa_cons _ _ _ _ _ (pv 0) (@pa_cons _ _ _ _ _ (pv 5) (@pa_nil _) (by rfl)) (by rfl)) (by decide) (by rfl) (by rfl)) (@pa_cons _ _ _ _ _ (pv 4) (@pa_cons _ _ _ _ _ (pv 3) (@pa_nil _) (by rfl)) (by rfl)) (by rfl)) (by decide) (by rfl) (by rfl)) (by rfl))) (@pss_nil _))) (by intro _; rfl)) (@pss_cons _ _ _ _ _ (@ps_if _ _ _ _ _ _ _ _ (@pt_cmpR _ _ _ _ _ _ _ _ op_notN2 (@pe_dget _ _ _ _ _ _ hr.u1 (pv 4) (@pe_str _ _ _ _) (fun _ _ => rfl)) (@pe_non _ _ _) (nomark _)) (@pss_cons _ _ _ _ _ (@ps_if _ _ _ _ _ _ _ _ (@pt_cmpR _ _ _ _ _ _ _ _ (op_eqA hr.units) (@pe_ix _ _ _ _ _ _ _ ix_LT (@pe_dget _ _ _ _ _ _ hr.u1 (pv 4) (@pe_str _ _ _ _) (fun _ _ => rfl)) (@pe_int _ _ _ _) (fun _ _ => rfl)) (@pe_lst _ _ _ _ (@pa_nil _)) (nomark _)) (@pss_one _ _ _ (@ps_expr _ _ _ _ (@pe_bm _ _ _ _ _ _ _ _ _ _ _ _ PySem.F.plainAttrs_list PySem.F.slot_list_append PySem.F.type_list_append mt_append (@pe_ix _ _ _ _ _ _ _ ix_LT (@pe_dget _ _ _ _ _ _ hr.u1 (pv 4) (@pe_str _ _ _ _) (fun _ _ => rfl)) (@pe_int _ _ _ _) (fun _ _ => rfl)) (@pa_cons _ _ _ _ _ (@pe_tup _ _ _ _ _ (@pa_cons _ _ _ _ _ (@pe_str _ _ _ _) (@pa_cons _ _ _ _ _ (@pe_ix _ _ _ _ _ _ _ ix_LT (pv 3) (@pe_int _ _ _ _) (fun _ _ => rfl)) (@pa_cons _ _ _ _ _ (@pe_ix _ _ _ _ _ _ _ ix_LT (pv 3) (@pe_int _ _ _ _) (fun _ _ => rfl)) (@pa_cons _ _ _ _ _ (@pe_tup _ _ _ _ _ (@pa_cons _ _ _ _ _ (@pe_int _ _ _ _) (@pa_cons _ _ _ _ _ (@pe_int _ _ _ _) (@pa_nil _) (by rfl)) (by rfl))) (@pa_nil _) (by rfl)) (by rfl)) (by rfl)) (by rfl))) (@pa_nil _) (by rfl)) (by rfl) (by rfl) (by rfl) (by rfl) (by rfl)) (by rfl))) (@pss_nil _)) (@pss_one _ _ _ (@ps_expr _ _ _ _ (@pe_callO _ _ _ _ _ _ _ _ _ _ o_closed hr rfl (@pa_cons _ _ _ _ _ (pv 4) (@pa_nil _) (by rfl)) (by decide) (by rfl) (by rfl)) (by rfl)))) (@pss_nil _)) (@pss_cons _ _ _ _ _ (@ps_if _ _ _ _ _ _ _ _ (@pt_cmpR _ _ _ _ _ _ _ _ (op_eqA hr.units) (@pe_dget _ _ _ _ _ _ hr.u1 (pv 4) (@pe_str _ _ _ _) (fun _ _ => rfl)) (@pe_lst _ _ _ _ (@pa_nil _)) (nomark _)) (@pss_one _ _ _ (@ps_expr _ _ _ _ (@pe_bm _ _ _ _ _ _ _ _ _ _ _ _ PySem.F.plainAttrs_list PySem.F.slot_list_append PySem.F.type_list_append mt_append (@pe_dget _ _ _ _ _ _ hr.u1 (pv 4) (@pe_str _ _ _ _) (fun _ _ => rfl)) (@pa_cons _ _ _ _ _ (@pe_tup _ _ _ _ _ (@pa_cons _ _ _ _ _ (@pe_str _ _ _ _) (@pa_cons _ _ _ _ _ (@pe_ix _ _ _ _ _ _ _ ix_LT (pv 3) (@pe_int _ _ _ _) (fun _ _ => rfl)) (@pa_cons _ _ _ _ _ (@pe_ix _ _ _ _ _ _ _ ix_LT (pv 3) (@pe_int _ _ _ _) (fun _ _ => rfl)) (@pa_cons _ _ _ _ _ (@pe_tup _ _ _ _ _ (@pa_cons _ _ _ _ _ (@pe_int _ _ _ _) (@pa_cons _ _ _ _ _ (@pe_int _ _ _ _) (@pa_nil _) (by rfl)) (by rfl))) (@pa_nil _) (by rfl)) (by rfl)) (by rfl)) (by rfl))) (@pa_nil _) (by rfl)) (by rfl) (by rfl) (by rfl) (by rfl) (by rfl)) (by rfl))) (@pss_nil _)) (@pss_one _ _ _ (@ps_ret _ _ _ _ (@pe_dget _ _ _ _ _ _ hr.u1 (pv 4) (@pe_str _ _ _ _) (fun _ _ => rfl))))))))),?_⟩
    try dsimp only [cxK_nox,cxK_of]
    walk_at "go"
    refine ⟨a,ns,rfl,hS,fun ln H1 U hln0 s1 hln hU8 hUp hUn => ?_⟩
    have hS1:=s1.seq hS
    obtain ⟨n0,hn0,e0⟩:=pickS' (nm:=U) (i:=0) (by decide) (by omega)
    obtain ⟨n1,hn1,e1⟩:=pickS' (nm:=U) (i:=1) (by decide) (by omega)
    have okr:okP (.run n0 n1 (Rat.divInt 1 1)):=⟨okNm.part (hUp _ hn0),okNm.part (hUp _ hn1),TimR.of2 (by decide) (by decide) (by decide) (by decide) (by decide)⟩
    walk_at "go"
    refine r_dispQ fun dd hdd => ?_
    have a1:=Same.new (o:=.dK []) hdd
    have b1:=upd_same (H:=H1) (a:=dd) (o:=.dK [])
    generalize L2.upd H1 dd (.dK []) = A1 at a1 b1 ⊢
    walk_at "go"
    refine r_lstK fun lf hlf => ?_
    have a2:=Same.new (o:=.lst []) hlf
    have b2:=upd_same (H:=A1) (a:=lf) (o:=.lst [])
    generalize L2.upd A1 lf (.lst []) = A2 at a2 b2 ⊢
    walk_at "go"
    refine r_lstK fun lk hlk => ?_
    have a3:=Same.new (o:=.lst []) hlk
    have b3:=upd_same (H:=A2) (a:=lk) (o:=.lst [])
    generalize L2.upd A2 lk (.lst []) = A3 at a3 b3 ⊢
    walk_at "go"
    have nfk:lf ≠ lk:=ne_of_none b2 hlk
    have ndf:dd ≠ lf:=ne_of_none b1 hlf
    have ndk:dd ≠ lk:=ne_of_none (a2 _ _ b1) hlk
    refine dspQ_st (a3 _ _ (a2 _ _ b1)) ?_
    have k4:Kp dd A3 (L2.upd A3 dd (.dK (stK lf lk .non 0))):=Kp.upd
    have b4:=upd_same (H:=A3) (a:=dd) (o:=.dK (stK lf lk .non 0))
    generalize L2.upd A3 dd (.dK (stK lf lk .non 0)) = A4 at k4 b4 ⊢
    have hlf1:H1 lf = none:=a1.free hlf
    have hlk1:H1 lk = none:=(a1.trans a2).free hlk
    have s4:Same H1 A4:=fun b o h => k4 _ _ (ne_of_none h hdd) (a3 _ _ (a2 _ _ (a1 _ _ h)))
    have st0:StI H1 A4 dd lf lk U [] none 0:=⟨⟨.non,0,b4,rfl⟩,nfk,⟨hdd,hlf1,hlk1⟩,⟨[],k4 _ _ ndf.symm (a3 _ _ b2),.nil⟩,⟨[],k4 _ _ ndk.symm b3,.nil⟩,trivial,fun _ h => (nomatch h),Nat.le_refl _⟩
    walk_at "go"
    refine r_rng2K (by decide) (by decide) (by omega) (by omega) ?_
    refine r_forR (n:=((m:Int) - 2).toNat) (fun i σ G => ∃ (gs:List GRow) (ins:Option Piece) (o5:Option V),σ = [some (.ref a),some (.int 2),some (.int (m:Int)),some (.ref ln),some (.ref dd),o5] /\ Same H1 G /\ StI H1 G dd lf lk U gs ins i) ⟨[],none,_,rfl,s4,st0⟩ ?_ ?_
    . rintro i σ G hi ⟨gs,ins,o5,rfl,sG,st⟩
      obtain ⟨vi,u,hd,_⟩:=st.st
      walk_at "go"
      refine r_dGs (.inl hd) st_used ?_
      walk_at "go"
      refine i_d (fun c1 => ?_) (fun c1 => ?_)
      . walk_at "go"
        refine ⟨a,ns,_,rfl,sG.seq hS1,by omega,by omega,fun r hr => ?_⟩
        walk_at "go"
        refine ⟨r,dd,lf,lk,ln,U,gs,ins,H1,i,rfl,hr,sG,hln,⟨hU8,hUp,hUn⟩,st,by omega,fun H' gs' ins' s' st' => ?_⟩
        walk_at "go"
        exact ⟨gs',ins',_,rfl,s',st'⟩
      . walk_at "go"
        exact ⟨gs,ins,_,rfl,sG,st.up (Nat.le_succ _)⟩
    rintro σ G ⟨gs,ins,o5,rfl,sG,st⟩
    have hn40:((m:Int) - 2).toNat <= 40:=by omega
    generalize ((m:Int) - 2).toNat = nn at st hn40
    obtain ⟨⟨vi,u,hd,hi⟩,ne,⟨fd,ff,fk⟩,⟨xs,hxs,px⟩,hkn,wf,nm,le⟩:=id st
    walk_at "gos"
    refine r_nx ?_
    refine r_seq ?_
    refine r_cut (fun σ G => ∃ gsF nF,σ = [some (.ref a),some (.int 2),some (.int (m:Int)),some (.ref ln),some (.ref dd),o5] /\ Same H1 G /\ StI H1 G dd lf lk U gsF none nF /\ nF <= 60) ?_ ?_
    . rintro σ GF ⟨gsF,nF,rfl,sF,stF,hnF⟩
      have gqF:=stF.gq
      obtain ⟨⟨viF,uF,hdF,hiF⟩,neF,⟨fdF,ffF,fkF⟩,⟨xsF,hxsF,pxF⟩,hknF,wfF,nmF,leF⟩:=id stF
      have hlnF:=sF _ _ hln
      walk_at "go"
      refine r_dGs (.inl hdF) st_found ?_
      walk_at "go"
      refine r_lstK fun le9 hle9 => ?_
      have s9:=Same.new (o:=.lst []) hle9
      have g9:=upd_same (H:=GF) (a:=le9) (o:=.lst [])
      generalize L2.upd GF le9 (.lst []) = G9 at s9 g9 ⊢
      refine e_gs0 (gqF.sm s9) g9 ?_
      have sF9:=sF.trans s9
      have hdF9:=s9 _ _ hdF
      have hxs9:=s9 _ _ hxsF
      by_cases hg0:gsF = []
      . rw [show gsF.isEmpty = true by rw [hg0]; rfl]
        walk_at "go"
        refine r_dGs (.inl hdF9) st_found ?_
        walk_at "go"
        refine r_ixl (s9 _ _ hlnF) e0 ?_
        walk_at "go"
        refine r_ixl (s9 _ _ hlnF) e1 ?_
        walk_at "go"
        refine r_tupK fun pt hpt => ?_
        have v1:=Same.new (o:=.tup [.int 1,.int 1]) hpt
        have w1:=upd_same (H:=G9) (a:=pt) (o:=.tup [.int 1,.int 1])
        generalize L2.upd G9 pt (.tup [.int 1,.int 1]) = J1 at v1 w1 ⊢
        walk_at "go"
        refine r_tupK fun pr hpr => ?_
        have v12:=Same.new (o:=.tup [.str "run",.str n0,.str n1,.ref pt]) hpr
        have w2:=upd_same (H:=J1) (a:=pr) (o:=.tup [.str "run",.str n0,.str n1,.ref pt])
        generalize L2.upd J1 pr (.tup [.str "run",.str n0,.str n1,.ref pt]) = J2 at v12 w2 ⊢
        have v2:=v1.trans v12
        have rq0:TRowQ J2 (.ref pr) (.plain (.run n0 n1 (Rat.divInt 1 1))):=⟨pr,_,rfl,w2,(FrQ.of2 (by decide) (by decide) w1).tk v12.tk⟩
        walk_at "go"
        have hxs2:=v2 _ _ (s9 _ _ hxsF)
        refine r_app hxs2 (by have:=Paired.length pxF; rw [hg0] at this; rw [this]; decide) ?_
        have kF:Kp lf J2 (L2.upd J2 lf (.lst (xsF ++ [.ref pr]))):=Kp.upd
        have tkF:=TK.lst (o:=.lst (xsF ++ [.ref pr])) hxs2
        have gF:=upd_same (H:=J2) (a:=lf) (o:=.lst (xsF ++ [.ref pr]))
        generalize L2.upd J2 lf (.lst (xsF ++ [.ref pr])) = J3 at kF tkF gF ⊢
        have ndf:lf ≠ dd:=fun e => by rw [e,hdF] at hxsF; cases hxsF
        have hdJ:=kF _ _ ndf.symm (v2 _ _ hdF9)
        walk_at "go"
        refine r_dGs (.inl hdJ) st_found ?_
        walk_at "go"
        refine q lf J3 [.one (.plain (.run n0 n1 (Rat.divInt 1 1)))] (s1.trans fun b o h => kF _ _ (ne_of_none h ffF) (v2 _ _ (s9 _ _ (sF _ _ h)))) (s1.free ffF) ⟨_,gF,?_⟩ ⟨⟨okr,trivial⟩,(by show 1 <= 60; decide),Nat.zero_le _⟩ (List.cons_ne_nil _ _) (by show 1 <= 60; decide)
        have:xsF = []:=List.length_eq_zero_iff.mp (by rw [Paired.length pxF,hg0]; rfl)
        rw [this]
        exact .cons (rq0.tk tkF) .nil
      . rw [show gsF.isEmpty = false by cases e:gsF with | nil => exact absurd e hg0 | cons a b => rfl]
        walk_at "go"
        refine r_dGs (.inl hdF9) st_found ?_
        walk_at "go"
        exact q lf G9 gsF (s1.trans sF9) (s1.free ffF) (gqF.sm s9) (stF.built hU8 hnF) hg0 (by have:lnN gsF + 0 <= nF:=leF; omega)
    . intro NX hNX
      have hlnG:=sG _ _ hln
      walk_at "go"
      refine r_dGs (.inl hd) st_inside ?_
      cases ins with
      | none =>
        cases (show vi = .non from hi)
        walk_at "go"
        exact hNX _ _ ⟨gs,nn,rfl,sG,st,by omega⟩
      | some x =>
        obtain ⟨⟨li,qa,ls,ys,rfl,hli,hqa,hls,prs,f1,f2,n1',n2,n3,n4,n5⟩,inm,inw,ind',ile,iwf,ipb⟩:=(show InsI H1 G dd lf lk U (envG [] gs) vi x from hi)
        have le2:lnN gs + (x.2.2.length + 1) <= nn:=le
        have hdl:∀ {b:Addr} {zs:List V},G b = some (.lst zs) -> b ≠ dd:=fun h e => by rw [e,hd] at h; cases h
        walk_at "go"
        refine r_dGs (.inl hd) st_inside ?_
        walk_at "go"
        refine r_lstK fun le1 hle1 => ?_
        have sX:=Same.new (o:=.lst []) hle1
        have ge:=upd_same (H:=G) (a:=le1) (o:=.lst [])
        generalize L2.upd G le1 (.lst []) = GX at sX ge ⊢
        refine e_rs0 (sX _ _ hls) (Pd.imp prs fun v b f => f.tk sX.tk) ge ?_
        by_cases hr0:x.2.2 = []
        . rw [show x.2.2.isEmpty = true by rw [hr0]; rfl]
          walk_at "go"
          refine r_dGs (.inl (sX _ _ hd)) st_inside ?_
          have hliX:=sX _ _ hli
          have hlsX:=sX _ _ hls
          walk_at "go"
          refine r_ixl (sX _ _ hlnG) e0 ?_
          walk_at "go"
          refine r_ixl (sX _ _ hlnG) e1 ?_
          walk_at "go"
          refine r_tupK fun pt hpt => ?_
          have v1:=Same.new (o:=.tup [.int 1,.int 1]) hpt
          have w1:=upd_same (H:=GX) (a:=pt) (o:=.tup [.int 1,.int 1])
          generalize L2.upd GX pt (.tup [.int 1,.int 1]) = J1 at v1 w1 ⊢
          walk_at "go"
          refine r_tupK fun pr hpr => ?_
          have v12:=Same.new (o:=.tup [.str "run",.str n0,.str n1,.ref pt]) hpr
          have w2:=upd_same (H:=J1) (a:=pr) (o:=.tup [.str "run",.str n0,.str n1,.ref pt])
          generalize L2.upd J1 pr (.tup [.str "run",.str n0,.str n1,.ref pt]) = J2 at v12 w2 ⊢
          have v2:=v1.trans v12
          have rq0:TRowQ J2 (.ref pr) (.plain (.run n0 n1 (Rat.divInt 1 1))):=⟨pr,_,rfl,w2,(FrQ.of2 (by decide) (by decide) w1).tk v12.tk⟩
          walk_at "go"
          have hls2:=v2 _ _ hlsX
          have hyl:=Paired.length prs
          refine r_app hls2 (by rw [hyl,hr0]; decide) ?_
          have k4':Kp ls J2 (L2.upd J2 ls (.lst (ys ++ [.ref pr]))):=Kp.upd
          have tk4:=TK.lst (o:=.lst (ys ++ [.ref pr])) hls2
          have g4:=upd_same (H:=J2) (a:=ls) (o:=.lst (ys ++ [.ref pr]))
          generalize L2.upd J2 ls (.lst (ys ++ [.ref pr])) = G4 at k4' tk4 g4 ⊢
          have u2:=sX.trans v2
          have tkX:=u2.tk.trans tk4
          have hy0:ys = []:=List.length_eq_zero_iff.mp (by rw [hyl,hr0]; rfl)
          have st4:StI H1 G4 dd lf lk U gs (some (x.1,x.2.1,[.plain (.run n0 n1 (Rat.divInt 1 1))])) (nn + 1):=by
            refine ⟨⟨_,_,k4' _ _ (hdl hls).symm (u2 _ _ hd),⟨⟨li,qa,ls,_,rfl,k4' _ _ n3 (u2 _ _ hli),tkX _ _ hqa,g4,?_,f1,f2,n1',n2,n3,n4,n5⟩,inm,inw,ind',ile,(fun r hr => ?_),ipb⟩⟩,ne,⟨fd,ff,fk⟩,⟨xs,k4' _ _ n4.symm (u2 _ _ hxs),Pd.imp px fun v b f => f.tk tkX⟩,?_,wf,nm,?_⟩
            . rw [hy0]
              exact .cons (rq0.tk tk4) .nil
            . rw [List.mem_singleton.mp hr]
              exact okr
            . obtain ⟨ks,hks,pk⟩:=hkn
              exact ⟨ks,k4' _ _ n5.symm (u2 _ _ hks),Pd.imp pk fun v b ⟨a,e,f⟩ => ⟨a,e,tkX _ _ f⟩⟩
            . show lnN gs + (1 + 1) <= _
              omega
          walk_at "go"
          refine ⟨dd,lf,lk,U,gs,_,H1,nn + 1,rfl,fun b o h => k4' _ _ (ne_of_none h f2) (u2 _ _ (sG _ _ h)),st4,List.cons_ne_nil _ _,by omega,fun H' s' st2 => ?_⟩
          walk_at "go"
          exact hNX _ _ ⟨_,_,rfl,s',st2,by omega⟩
        . rw [show x.2.2.isEmpty = false by cases e:x.2.2 with | nil => exact absurd e hr0 | cons a b => rfl]
          walk_at "go"
          refine ⟨dd,lf,lk,U,gs,x,H1,nn,rfl,sG.trans sX,st.sm sX,hr0,by omega,fun H' s' st2 => ?_⟩
          walk_at "go"
          exact hNX _ _ ⟨_,_,rfl,s',st2,by omega⟩
set_option maxHeartbeats 0 in
theorem ok_text (T:Bl mg) (d:Df K mg "_law_text" s_text ["_law_rows"]  ) (o_row_texts:Okf P w K mg base k "_law_row_texts" ["_law_row_here"] (spRowTx K)):Okf P w K mg base (k + 1) "_law_text" ["_law_rows"] (spText71 K):=by
  refine Okf.of d sc_text (fun vs H Q E h => ?_) (fun f cdv A outer s H vs Q E hr h => ?_)
  . obtain ⟨l,gs,rfl,_⟩:=h
    rfl
  . obtain ⟨l,gs,rfl,hl,hb,hn,q⟩:=h
    refine ⟨_,(@pss_cons _ _ _ _ _ (@ps_set _ _ (i:=1) _ _ _ _ sc_text.nd rfl (by first | exact Or.inl rfl | exact Or.inr rfl) (@pe_lst _ _ _ _ (@pa_nil _)) (by rfl) (by first | exact .inl rfl | exact .inr rfl | assumption)) (@pss_cons _ _ _ _ _ (@ps_for _ _ _ _ _ _ _ _ PassesOwn.never rfl (@pi_list _ _ _ _ (pv 0)) (@pg_name _ _ (i:=2) _ sc_text.nd rfl (by first | exact Or.inl rfl | exact Or.inr rfl) (by first | exact .inl rfl | exact .inr rfl | assumption)) (@pss_one _ _ _ (@ps_set _ _ (i:=1) _ _ _ _ sc_text.nd rfl (by first | exact Or.inl rfl | exact Or.inr rfl) (@pe_op _ _ _ _ _ _ _ _ op_addA (pv 1) (@pe_callO _ _ _ _ _ _ _ _ _ _ o_row_texts hr rfl (@pa_cons _ _ _ _ _ (pv 2) (@pa_nil _) (by rfl)) (by decide) (by rfl) (by rfl))) (by rfl) (by first | exact .inl rfl | exact .inr rfl | assumption))) (by intro _; rfl)) (@pss_one _ _ _ (@ps_ret _ _ _ _ (@pe_bm _ _ _ _ _ _ _ _ _ _ _ _ PySem.F.plainAttrs_str PySem.F.slot_str_join PySem.F.type_str_join mt_join (@pe_str _ _ _ _) (@pa_cons _ _ _ _ _ (pv 1) (@pa_nil _) (by rfl)) (by rfl) (by rfl) (by rfl) (by rfl) (by rfl)))))),?_⟩
    try dsimp only [cxK_nox,cxK_of]
    obtain ⟨xs,hxs,px⟩:=hl
    have hxl:=Paired.length px
    have hll:=lines_len gs
    walk_at "go"
    refine r_lstK fun l0 hl0 => ?_
    have s0:=Same.new (o:=.lst []) hl0
    have g0:=upd_same (H:=H) (a:=l0) (o:=.lst [])
    generalize L2.upd H l0 (.lst []) = H0 at s0 g0 ⊢
    walk_at "go"
    refine r_listK (SqL.of (s0 _ _ hxs)) ?_
    refine r_forL (xs:=xs) (fun i σ G => ∃ (E:List Piece) (o2:Option V) (lf:Addr),σ = [some (.ref l),some (.ref lf),o2] /\ Same H G /\ H lf = none /\ G lf = some (.lst (((gs.take i).flatMap linesG).map lnV)) /\ WfE E /\ WfG E (gs.drop i)) ⟨[],_,_,rfl,s0,hl0,g0,trivial,hb.wf⟩ ?_ ?_ ?_
    . rintro i σ G _ ⟨E,o2,lf,rfl,sG,_⟩
      exact SqL.of (sG _ _ hxs)
    . rintro i y σ G hy ⟨E,o2,lf,rfl,sG,hlf,glf,hE,hW⟩
      obtain ⟨g,hg,gq⟩:=Paired.at px hy
      rw [drop_at hg] at hW
      have tk1:gs.take (i + 1) = gs.take i ++ [g]:=by rw [List.take_add_one,hg]; rfl
      have hd:WfG E [g] /\ ∃ E',WfE E' /\ WfG E' (gs.drop (i + 1)):=by
        cases g with
        | one r => exact ⟨⟨hW.1,trivial⟩,E,hE,hW.2⟩
        | piece p => exact ⟨⟨hW.1,trivial⟩,p :: E,⟨hW.1,hE⟩,hW.2⟩
      obtain ⟨hd,E',hE',hW'⟩:=hd
      have cnt:((gs.take i).flatMap linesG).length + (linesG g).length <= (gs.flatMap linesG).length:=by
        have e:=congrArg List.length (gs_at hg)
        rw [List.length_drop,List.length_append] at e
        have e2:=congrArg (fun l => (List.flatMap linesG l).length) (List.take_append_drop i gs)
        simp only [List.flatMap_append,List.length_append] at e2
        omega
      walk_at "go"
      refine ⟨y,g,E,rfl,GRowQ.tk gq sG.tk,hd,hE,fun l4 G4 hl4 t4 g4 => ?_⟩
      refine a_lst (t4 _ _ glf) g4 (by rw [List.length_map,List.length_map]; omega) fun l5 hl5 => ?_
      have t5:=sG.trans t4
      walk_at "go"
      refine ⟨E',_,l5,rfl,t5.trans (Same.new hl5),t5.free hl5,?_,hE',hW'⟩
      rw [upd_same,tk1,List.flatMap_append,List.map_append]
      simp
    rintro σ G ⟨E,o2,lf,rfl,sG,hlf,glf,_⟩
    rw [hxl,List.take_length] at glf
    have glf2:G lf = some (.lst (((gs.flatMap linesG).map (Str.join sp1)).map V.str)):=by rw [glf,List.map_map]; rfl
    walk_at "go"
    refine ⟨_,lf,_,rfl,rfl,glf2,(lines_cap hb hn).1,?_⟩
    walk_at "go"
    exact q G sG
set_option maxHeartbeats 0 in
theorem ok_law {f:Addr} {fd:FuncData} (T:Bl mg) (F:Fun K "law" "law" s_law f fd) (o_shown_rows:Okf P w K mg base k "shown_rows" ["rows"] (spShownR K)) (o_read_rows:Okf P w K mg base k "read_rows" ["text"] (spReadRows K)) (o_text:Okf P w K mg base k "_law_text" ["_law_rows"] (spText71 K)) (o_built:Okf P w K mg base k "_law_built" ["_law_script","_law_first","_law_end"] (spBuilt K)):FnOk P w K mg base CX0 (k + 1) f fd ["_law_script"] (spLaw K):=by
  refine F.ok sc_law (fun vs H Q E h => ?_) (fun cdv A outer s H vs Q E hr h => ?_)
  . obtain ⟨a,ns,rfl,_⟩:=h
    rfl
  . obtain ⟨a,ns,rfl,hS,h63,q⟩:=h
    refine ⟨_,(@pss_cons _ _ _ _ _ (@ps_set _ _ (i:=1) _ _ _ _ sc_law.nd rfl (by first | exact Or.inl rfl | exact Or.inr rfl) (@pe_callO _ _ _ _ _ _ _ _ _ _ o_built hr rfl (@pa_cons _ _ _ _ _ (pv 0) (@pa_cons _ _ _ _ _ (@pe_int _ _ _ _) (@pa_cons _ _ _ _ _ (@pe_callB _ _ _ _ _ _ _ _ _ (c_min rfl) rfl T.z_min bt_min (@pa_cons _ _ _ _ _ (@pe_callB _ _ _ _ _ _ _ _ _ c_len rfl T.z_len bt_len (@pa_cons _ _ _ _ _ (pv 0) (@pa_nil _) (by rfl)) (by decide) (by decide) (by rfl) (by rfl)) (@pa_cons _ _ _ _ _ (@pe_int _ _ _ _) (@pa_nil _) (by rfl)) (by rfl)) (by decide) (by decide) (by rfl) (by rfl)) (@pa_nil _) (by rfl)) (by rfl)) (by rfl)) (by decide) (by rfl) (by rfl)) (by rfl) (by first | exact .inl rfl | exact .inr rfl | assumption)) (@pss_cons _ _ _ _ _ (@ps_set _ _ (i:=2) _ _ _ _ sc_law.nd rfl (by first | exact Or.inl rfl | exact Or.inr rfl) (@pe_callO _ _ _ _ _ _ _ _ _ _ o_text hr rfl (@pa_cons _ _ _ _ _ (pv 1) (@pa_nil _) (by rfl)) (by decide) (by rfl) (by rfl)) (by rfl) (by first | exact .inl rfl | exact .inr rfl | assumption)) (@pss_cons _ _ _ _ _ (@ps_set _ _ (i:=3) _ _ _ _ sc_law.nd rfl (by first | exact Or.inl rfl | exact Or.inr rfl) (@pe_callO _ _ _ _ _ _ _ _ _ _ o_read_rows hr rfl (@pa_cons _ _ _ _ _ (pv 2) (@pa_nil _) (by rfl)) (by decide) (by rfl) (by rfl)) (by rfl) (by first | exact .inl rfl | exact .inr rfl | assumption)) (@pss_cons _ _ _ _ _ (@ps_if _ _ _ _ _ _ _ _ (@PW.pt _ _ _ (@pw_or _ _ _ _ _ _ _ (@pt_not _ _ _ _ (@pt_val _ _ _ (@pe_callB _ _ _ _ _ _ _ _ _ (call_isTy (T:="list")) rfl T.z_isinstance bt_isinstance (@pa_cons _ _ _ _ _ (pv 3) (@pa_cons _ _ _ _ _ (@pe_bltn _ _ (v:=.ty "list") _ _ rfl T.z_list bt_list rfl (by decide) (by decide)) (@pa_nil _) (by rfl)) (by rfl)) (by decide) (by decide) (by rfl) (by rfl)) (by intro _; rfl))) (@pw_or _ _ _ _ _ _ _ (@pt_cmpR _ _ _ _ _ _ _ _ (op_neA hr.units) (pv 3) (pv 1) (nomark _)) (@pw_or1 _ _ _ _ (@pt_cmpR _ _ _ _ _ _ _ _ (op_neA hr.units) (@pe_callO _ _ _ _ _ _ _ _ _ _ o_shown_rows hr rfl (@pa_cons _ _ _ _ _ (pv 3) (@pa_nil _) (by rfl)) (by decide) (by rfl) (by rfl)) (pv 2) (nomark _)))))) (@pss_one _ _ _ (@ps_ret _ _ _ _ (@pe_bl _ _ _ _))) (@pss_nil _)) (@pss_cons _ _ _ _ _ (@ps_expr _ _ _ _ (@pe_bm _ _ _ _ _ _ _ _ _ _ _ _ PySem.F.plainAttrs_list PySem.F.slot_list_append PySem.F.type_list_append mt_append (pv 3) (@pa_cons _ _ _ _ _ (@pe_non _ _ _) (@pa_nil _) (by rfl)) (by rfl) (by rfl) (by rfl) (by rfl) (by rfl)) (by rfl)) (@pss_one _ _ _ (@ps_ret _ _ _ _ (@pe_and _ _ _ _ _ _ _ (@pe_cmpR _ _ _ _ _ _ _ _ (op_eqA hr.units) (@pe_callO _ _ _ _ _ _ _ _ _ _ o_read_rows hr rfl (@pa_cons _ _ _ _ _ (pv 2) (@pa_nil _) (by rfl)) (by decide) (by rfl) (by rfl)) (pv 1) (nomark _)) (@pe_one _ _ _ _ _ (@pe_cmpR _ _ _ _ _ _ _ _ (op_eqA hr.units) (@pe_callO _ _ _ _ _ _ _ _ _ _ o_shown_rows hr rfl (@pa_cons _ _ _ _ _ (pv 1) (@pa_nil _) (by rfl)) (by decide) (by rfl) (by rfl)) (pv 2) (nomark _))))))))))),?_⟩
    try dsimp only [cxK_nox,cxK_of]
    walk_at "go"
    refine r_lenL hS ?_
    walk_at "go"
    rw [List.length_map]
    obtain ⟨m,hm,em⟩:∃ m:Nat,m <= 42 /\ (if (32:Int) < (ns.length:Int) then (32:Int) else (ns.length:Int)) = (m:Int):=by
      by_cases h:(32:Int) < (ns.length:Int)
      . exact ⟨32,by decide,by rw [if_pos h]; rfl⟩
      . exact ⟨ns.length,by omega,by rw [if_neg h]⟩
    rw [em]
    clear em
    refine ⟨a,ns,m,rfl,hS,h63,hm,fun lr G gs sG _ hgs hb hne hln => ?_⟩
    have hcap:=(lines_cap hb hln).2
    walk_at "go"
    refine ⟨lr,gs,rfl,hgs,hb,hln,fun G1 s1 => ?_⟩
    walk_at "go"
    refine ⟨gs,rfl,hne,hb,hln,hcap,fun lf G2 hlf s2 fq => ?_⟩
    have s12:=s1.trans s2
    obtain ⟨xf,hxf,pxf⟩:=id fq
    have hxl:=Paired.length pxf
    have few:=hb.few
    walk_at "go"
    refine r_isTy (.lst hxf) kit_list_list ?_
    walk_at "go"
    refine n_gs fq (hgs.sm s12) ?_
    walk_at "go"
    refine ⟨lf,gs,rfl,fq,hb,hln,fun G3 s3 => ?_⟩
    have s13:=s12.trans s3
    walk_at "go"
    rw [if_pos (beq_self_eq_true _)]
    have hx3:=s3 _ _ hxf
    walk_at "go"
    refine r_app hx3 (by omega) ?_
    have sP:Same G1 (L2.upd G3 lf (.lst (xf ++ [.non]))):=Kp.upd.sm (s2.trans s3) hlf
    generalize L2.upd G3 lf (.lst (xf ++ [.non])) = G4 at sP ⊢
    have s14:=s1.trans sP
    walk_at "go"
    refine ⟨gs,rfl,hne,hb,hln,hcap,fun lg G5 hlg s5 fq5 => ?_⟩
    have s15:=s14.trans s5
    walk_at "go"
    refine e_gs fq5 (hgs.sm s15) ?_
    walk_at "go"
    refine ⟨lr,gs,rfl,hgs.sm s15,hb,hln,fun G6 s6 => ?_⟩
    walk_at "go"
    rw [beq_self_eq_true]
    exact q _
end
set_option maxHeartbeats 0 in
theorem all_mk {l:PySem.W.OpenLaw} {w:World} {K:PySem.W.Frag} {h:Heap} {mg:Str -> Option Value} {fa:Addr} (X:K.In h) (G:h.Ns mainGlobals mg) (hfa:mg "law" = some (.ref fa)) {f0:Addr} {oc0:Value} {od0 an0:Option Addr} {sl0:Array (Option Value)} {kV0 dc0 pm0 cd0 ct0:Value} {f1:Addr} {oc1:Value} {od1 an1:Option Addr} {sl1:Array (Option Value)} {kV1 dc1 pm1 cd1 ct1:Value} {f2:Addr} {oc2:Value} {od2 an2:Option Addr} {sl2:Array (Option Value)} {kV2 dc2 pm2 cd2 ct2:Value} {f3:Addr} {oc3:Value} {od3 an3:Option Addr} {sl3:Array (Option Value)} {kV3 dc3 pm3 cd3 ct3:Value} {f4:Addr} {oc4:Value} {od4 an4:Option Addr} {sl4:Array (Option Value)} {kV4 dc4 pm4 cd4 ct4:Value} {f5:Addr} {oc5:Value} {od5 an5:Option Addr} {sl5:Array (Option Value)} {kV5 dc5 pm5 cd5 ct5:Value} {f6:Addr} {oc6:Value} {od6 an6:Option Addr} {sl6:Array (Option Value)} {kV6 dc6 pm6 cd6 ct6:Value} {f7:Addr} {oc7:Value} {od7 an7:Option Addr} {sl7:Array (Option Value)} {kV7 dc7 pm7 cd7 ct7:Value} {f8:Addr} {oc8:Value} {od8 an8:Option Addr} {sl8:Array (Option Value)} {kV8 dc8 pm8 cd8 ct8:Value} {f9:Addr} {oc9:Value} {od9 an9:Option Addr} {sl9:Array (Option Value)} {kV9 dc9 pm9 cd9 ct9:Value} {f10:Addr} {oc10:Value} {od10 an10:Option Addr} {sl10:Array (Option Value)} {kV10 dc10 pm10 cd10 ct10:Value} {f11:Addr} {oc11:Value} {od11 an11:Option Addr} {sl11:Array (Option Value)} {kV11 dc11 pm11 cd11 ct11:Value} {f12:Addr} {oc12:Value} {od12 an12:Option Addr} {sl12:Array (Option Value)} {kV12 dc12 pm12 cd12 ct12:Value} {f13:Addr} {oc13:Value} {od13 an13:Option Addr} {sl13:Array (Option Value)} {kV13 dc13 pm13 cd13 ct13:Value} {f14:Addr} {oc14:Value} {od14 an14:Option Addr} {sl14:Array (Option Value)} {kV14 dc14 pm14 cd14 ct14:Value} {f15:Addr} {oc15:Value} {od15 an15:Option Addr} {sl15:Array (Option Value)} {kV15 dc15 pm15 cd15 ct15:Value} {f16:Addr} {oc16:Value} {od16 an16:Option Addr} {sl16:Array (Option Value)} {kV16 dc16 pm16 cd16 ct16:Value} {f17:Addr} {oc17:Value} {od17 an17:Option Addr} {sl17:Array (Option Value)} {kV17 dc17 pm17 cd17 ct17:Value} {f18:Addr} {oc18:Value} {od18 an18:Option Addr} {sl18:Array (Option Value)} {kV18 dc18 pm18 cd18 ct18:Value} {f19:Addr} {oc19:Value} {od19 an19:Option Addr} {sl19:Array (Option Value)} {kV19 dc19 pm19 cd19 ct19:Value} {f20:Addr} {oc20:Value} {od20 an20:Option Addr} {sl20:Array (Option Value)} {kV20 dc20 pm20 cd20 ct20:Value} {f21:Addr} {oc21:Value} {od21 an21:Option Addr} {sl21:Array (Option Value)} {kV21 dc21 pm21 cd21 ct21:Value} {f22:Addr} {oc22:Value} {od22 an22:Option Addr} {sl22:Array (Option Value)} {kV22 dc22 pm22 cd22 ct22:Value} {f23:Addr} {oc23:Value} {od23 an23:Option Addr} {sl23:Array (Option Value)} {kV23 dc23 pm23 cd23 ct23:Value} {f24:Addr} {oc24:Value} {od24 an24:Option Addr} {sl24:Array (Option Value)} {kV24 dc24 pm24 cd24 ct24:Value} {f25:Addr} {oc25:Value} {od25 an25:Option Addr} {sl25:Array (Option Value)} {kV25 dc25 pm25 cd25 ct25:Value} {f26:Addr} {oc26:Value} {od26 an26:Option Addr} {sl26:Array (Option Value)} {kV26 dc26 pm26 cd26 ct26:Value} {f27:Addr} {oc27:Value} {od27 an27:Option Addr} {sl27:Array (Option Value)} {kV27 dc27 pm27 cd27 ct27:Value} {f28:Addr} {oc28:Value} {od28 an28:Option Addr} {sl28:Array (Option Value)} {kV28 dc28 pm28 cd28 ct28:Value} {f29:Addr} {oc29:Value} {od29 an29:Option Addr} {sl29:Array (Option Value)} {kV29 dc29 pm29 cd29 ct29:Value} {f30:Addr} {oc30:Value} {od30 an30:Option Addr} {sl30:Array (Option Value)} {kV30 dc30 pm30 cd30 ct30:Value} {f31:Addr} {oc31:Value} {od31 an31:Option Addr} {sl31:Array (Option Value)} {kV31 dc31 pm31 cd31 ct31:Value} {f32:Addr} {oc32:Value} {od32 an32:Option Addr} {sl32:Array (Option Value)} {kV32 dc32 pm32 cd32 ct32:Value} {f33:Addr} {oc33:Value} {od33 an33:Option Addr} {sl33:Array (Option Value)} {kV33 dc33 pm33 cd33 ct33:Value} {f34:Addr} {oc34:Value} {od34 an34:Option Addr} {sl34:Array (Option Value)} {kV34 dc34 pm34 cd34 ct34:Value} {f35:Addr} {oc35:Value} {od35 an35:Option Addr} {sl35:Array (Option Value)} {kV35 dc35 pm35 cd35 ct35:Value} {f36:Addr} {oc36:Value} {od36 an36:Option Addr} {sl36:Array (Option Value)} {kV36 dc36 pm36 cd36 ct36:Value} {f37:Addr} {oc37:Value} {od37 an37:Option Addr} {sl37:Array (Option Value)} {kV37 dc37 pm37 cd37 ct37:Value} {tk_FIGURES:Tok} {tk_MOST_FIGURES:Tok} {tk_LETTERS:Tok} {tk_MOST_LETTERS:Tok} {tk_MOST_PARTS:Tok} {tk_MOST_PARAMS:Tok} {tk_MOST_ROWS:Tok} {ad_FEWEST_POSTS:Addr} {ep_FEWEST_POSTS:Nat} {h0_FEWEST_POSTS:Int} {t0_FEWEST_POSTS u0_FEWEST_POSTS:Tok} {h1_FEWEST_POSTS:Int} {t1_FEWEST_POSTS u1_FEWEST_POSTS:Tok} {h2_FEWEST_POSTS:Int} {t2_FEWEST_POSTS u2_FEWEST_POSTS:Tok}
    (a0:PySem.W.nsIn K mainGlobals "is_whole" = some (some (.ref f0))) (l0:K.lookup f0 = some ⟨oc0,od0,.func (PySem.W.fnOf "is_whole" "is_whole" (defArgs s_is_whole) (defBody s_is_whole) (defScope s_is_whole) .none kV0 dc0 pm0 an0 cd0 ct0),sl0⟩) (c0:PySem.W.codeIn K cd0 "is_whole" = true) (k0:PySem.W.keepIn K (.ref f0) = true)
    (a1:PySem.W.nsIn K mainGlobals "common_divisor" = some (some (.ref f1))) (l1:K.lookup f1 = some ⟨oc1,od1,.func (PySem.W.fnOf "common_divisor" "common_divisor" (defArgs s_common_divisor) (defBody s_common_divisor) (defScope s_common_divisor) .none kV1 dc1 pm1 an1 cd1 ct1),sl1⟩) (c1:PySem.W.codeIn K cd1 "common_divisor" = true) (k1:PySem.W.keepIn K (.ref f1) = true)
    (a2:PySem.W.nsIn K mainGlobals "is_fraction" = some (some (.ref f2))) (l2:K.lookup f2 = some ⟨oc2,od2,.func (PySem.W.fnOf "is_fraction" "is_fraction" (defArgs s_is_fraction) (defBody s_is_fraction) (defScope s_is_fraction) .none kV2 dc2 pm2 an2 cd2 ct2),sl2⟩) (c2:PySem.W.codeIn K cd2 "is_fraction" = true) (k2:PySem.W.keepIn K (.ref f2) = true)
    (a3:PySem.W.nsIn K mainGlobals "is_written" = some (some (.ref f3))) (l3:K.lookup f3 = some ⟨oc3,od3,.func (PySem.W.fnOf "is_written" "is_written" (defArgs s_is_written) (defBody s_is_written) (defScope s_is_written) .none kV3 dc3 pm3 an3 cd3 ct3),sl3⟩) (c3:PySem.W.codeIn K cd3 "is_written" = true) (k3:PySem.W.keepIn K (.ref f3) = true)
    (a4:PySem.W.nsIn K mainGlobals "read_time" = some (some (.ref f4))) (l4:K.lookup f4 = some ⟨oc4,od4,.func (PySem.W.fnOf "read_time" "read_time" (defArgs s_read_time) (defBody s_read_time) (defScope s_read_time) .none kV4 dc4 pm4 an4 cd4 ct4),sl4⟩) (c4:PySem.W.codeIn K cd4 "read_time" = true) (k4:PySem.W.keepIn K (.ref f4) = true)
    (a5:PySem.W.nsIn K mainGlobals "shown_whole" = some (some (.ref f5))) (l5:K.lookup f5 = some ⟨oc5,od5,.func (PySem.W.fnOf "shown_whole" "shown_whole" (defArgs s_shown_whole) (defBody s_shown_whole) (defScope s_shown_whole) .none kV5 dc5 pm5 an5 cd5 ct5),sl5⟩) (c5:PySem.W.codeIn K cd5 "shown_whole" = true) (k5:PySem.W.keepIn K (.ref f5) = true)
    (a6:PySem.W.nsIn K mainGlobals "shown_fraction" = some (some (.ref f6))) (l6:K.lookup f6 = some ⟨oc6,od6,.func (PySem.W.fnOf "shown_fraction" "shown_fraction" (defArgs s_shown_fraction) (defBody s_shown_fraction) (defScope s_shown_fraction) .none kV6 dc6 pm6 an6 cd6 ct6),sl6⟩) (c6:PySem.W.codeIn K cd6 "shown_fraction" = true) (k6:PySem.W.keepIn K (.ref f6) = true)
    (a7:PySem.W.nsIn K mainGlobals "is_part" = some (some (.ref f7))) (l7:K.lookup f7 = some ⟨oc7,od7,.func (PySem.W.fnOf "is_part" "is_part" (defArgs s_is_part) (defBody s_is_part) (defScope s_is_part) .none kV7 dc7 pm7 an7 cd7 ct7),sl7⟩) (c7:PySem.W.codeIn K cd7 "is_part" = true) (k7:PySem.W.keepIn K (.ref f7) = true)
    (a8:PySem.W.nsIn K mainGlobals "is_post" = some (some (.ref f8))) (l8:K.lookup f8 = some ⟨oc8,od8,.func (PySem.W.fnOf "is_post" "is_post" (defArgs s_is_post) (defBody s_is_post) (defScope s_is_post) .none kV8 dc8 pm8 an8 cd8 ct8),sl8⟩) (c8:PySem.W.codeIn K cd8 "is_post" = true) (k8:PySem.W.keepIn K (.ref f8) = true)
    (a9:PySem.W.nsIn K mainGlobals "refuse_unless" = some (some (.ref f9))) (l9:K.lookup f9 = some ⟨oc9,od9,.func (PySem.W.fnOf "refuse_unless" "refuse_unless" (defArgs s_refuse_unless) (defBody s_refuse_unless) (defScope s_refuse_unless) .none kV9 dc9 pm9 an9 cd9 ct9),sl9⟩) (c9:PySem.W.codeIn K cd9 "refuse_unless" = true) (k9:PySem.W.keepIn K (.ref f9) = true)
    (a10:PySem.W.nsIn K mainGlobals "posts_in" = some (some (.ref f10))) (l10:K.lookup f10 = some ⟨oc10,od10,.func (PySem.W.fnOf "posts_in" "posts_in" (defArgs s_posts_in) (defBody s_posts_in) (defScope s_posts_in) .none kV10 dc10 pm10 an10 cd10 ct10),sl10⟩) (c10:PySem.W.codeIn K cd10 "posts_in" = true) (k10:PySem.W.keepIn K (.ref f10) = true)
    (a11:PySem.W.nsIn K mainGlobals "time_in" = some (some (.ref f11))) (l11:K.lookup f11 = some ⟨oc11,od11,.func (PySem.W.fnOf "time_in" "time_in" (defArgs s_time_in) (defBody s_time_in) (defScope s_time_in) .none kV11 dc11 pm11 an11 cd11 ct11),sl11⟩) (c11:PySem.W.codeIn K cd11 "time_in" = true) (k11:PySem.W.keepIn K (.ref f11) = true)
    (a12:PySem.W.nsIn K mainGlobals "run_in" = some (some (.ref f12))) (l12:K.lookup f12 = some ⟨oc12,od12,.func (PySem.W.fnOf "run_in" "run_in" (defArgs s_run_in) (defBody s_run_in) (defScope s_run_in) .none kV12 dc12 pm12 an12 cd12 ct12),sl12⟩) (c12:PySem.W.codeIn K cd12 "run_in" = true) (k12:PySem.W.keepIn K (.ref f12) = true)
    (a13:PySem.W.nsIn K mainGlobals "posts_row_in" = some (some (.ref f13))) (l13:K.lookup f13 = some ⟨oc13,od13,.func (PySem.W.fnOf "posts_row_in" "posts_row_in" (defArgs s_posts_row_in) (defBody s_posts_row_in) (defScope s_posts_row_in) .none kV13 dc13 pm13 an13 cd13 ct13),sl13⟩) (c13:PySem.W.codeIn K cd13 "posts_row_in" = true) (k13:PySem.W.keepIn K (.ref f13) = true)
    (a14:PySem.W.nsIn K mainGlobals "put_in" = some (some (.ref f14))) (l14:K.lookup f14 = some ⟨oc14,od14,.func (PySem.W.fnOf "put_in" "put_in" (defArgs s_put_in) (defBody s_put_in) (defScope s_put_in) .none kV14 dc14 pm14 an14 cd14 ct14),sl14⟩) (c14:PySem.W.codeIn K cd14 "put_in" = true) (k14:PySem.W.keepIn K (.ref f14) = true)
    (a15:PySem.W.nsIn K mainGlobals "plain_row_in" = some (some (.ref f15))) (l15:K.lookup f15 = some ⟨oc15,od15,.func (PySem.W.fnOf "plain_row_in" "plain_row_in" (defArgs s_plain_row_in) (defBody s_plain_row_in) (defScope s_plain_row_in) .none kV15 dc15 pm15 an15 cd15 ct15),sl15⟩) (c15:PySem.W.codeIn K cd15 "plain_row_in" = true) (k15:PySem.W.keepIn K (.ref f15) = true)
    (a16:PySem.W.nsIn K mainGlobals "piece_in" = some (some (.ref f16))) (l16:K.lookup f16 = some ⟨oc16,od16,.func (PySem.W.fnOf "piece_in" "piece_in" (defArgs s_piece_in) (defBody s_piece_in) (defScope s_piece_in) .none kV16 dc16 pm16 an16 cd16 ct16),sl16⟩) (c16:PySem.W.codeIn K cd16 "piece_in" = true) (k16:PySem.W.keepIn K (.ref f16) = true)
    (a17:PySem.W.nsIn K mainGlobals "end_behind" = some (some (.ref f17))) (l17:K.lookup f17 = some ⟨oc17,od17,.func (PySem.W.fnOf "end_behind" "end_behind" (defArgs s_end_behind) (defBody s_end_behind) (defScope s_end_behind) .none kV17 dc17 pm17 an17 cd17 ct17),sl17⟩) (c17:PySem.W.codeIn K cd17 "end_behind" = true) (k17:PySem.W.keepIn K (.ref f17) = true)
    (a18:PySem.W.nsIn K mainGlobals "lines_in" = some (some (.ref f18))) (l18:K.lookup f18 = some ⟨oc18,od18,.func (PySem.W.fnOf "lines_in" "lines_in" (defArgs s_lines_in) (defBody s_lines_in) (defScope s_lines_in) .none kV18 dc18 pm18 an18 cd18 ct18),sl18⟩) (c18:PySem.W.codeIn K cd18 "lines_in" = true) (k18:PySem.W.keepIn K (.ref f18) = true)
    (a19:PySem.W.nsIn K mainGlobals "read_rows" = some (some (.ref f19))) (l19:K.lookup f19 = some ⟨oc19,od19,.func (PySem.W.fnOf "read_rows" "read_rows" (defArgs s_read_rows) (defBody s_read_rows) (defScope s_read_rows) .none kV19 dc19 pm19 an19 cd19 ct19),sl19⟩) (c19:PySem.W.codeIn K cd19 "read_rows" = true) (k19:PySem.W.keepIn K (.ref f19) = true)
    (a20:PySem.W.nsIn K mainGlobals "words_of" = some (some (.ref f20))) (l20:K.lookup f20 = some ⟨oc20,od20,.func (PySem.W.fnOf "words_of" "words_of" (defArgs s_words_of) (defBody s_words_of) (defScope s_words_of) .none kV20 dc20 pm20 an20 cd20 ct20),sl20⟩) (c20:PySem.W.codeIn K cd20 "words_of" = true) (k20:PySem.W.keepIn K (.ref f20) = true)
    (a21:PySem.W.nsIn K mainGlobals "shown_rows" = some (some (.ref f21))) (l21:K.lookup f21 = some ⟨oc21,od21,.func (PySem.W.fnOf "shown_rows" "shown_rows" (defArgs s_shown_rows) (defBody s_shown_rows) (defScope s_shown_rows) .none kV21 dc21 pm21 an21 cd21 ct21),sl21⟩) (c21:PySem.W.codeIn K cd21 "shown_rows" = true) (k21:PySem.W.keepIn K (.ref f21) = true)
    (a22:PySem.W.nsIn K mainGlobals "_law_cell_at" = some (some (.ref f22))) (l22:K.lookup f22 = some ⟨oc22,od22,.func (PySem.W.fnOf "_law_cell_at" "_law_cell_at" (defArgs s_cell_at) (defBody s_cell_at) (defScope s_cell_at) .none kV22 dc22 pm22 an22 cd22 ct22),sl22⟩) (c22:PySem.W.codeIn K cd22 "_law_cell_at" = true) (k22:PySem.W.keepIn K (.ref f22) = true)
    (a23:PySem.W.nsIn K mainGlobals "_law_number" = some (some (.ref f23))) (l23:K.lookup f23 = some ⟨oc23,od23,.func (PySem.W.fnOf "_law_number" "_law_number" (defArgs s_number) (defBody s_number) (defScope s_number) .none kV23 dc23 pm23 an23 cd23 ct23),sl23⟩) (c23:PySem.W.codeIn K cd23 "_law_number" = true) (k23:PySem.W.keepIn K (.ref f23) = true)
    (a24:PySem.W.nsIn K mainGlobals "_law_lowest" = some (some (.ref f24))) (l24:K.lookup f24 = some ⟨oc24,od24,.func (PySem.W.fnOf "_law_lowest" "_law_lowest" (defArgs s_lowest) (defBody s_lowest) (defScope s_lowest) .none kV24 dc24 pm24 an24 cd24 ct24),sl24⟩) (c24:PySem.W.codeIn K cd24 "_law_lowest" = true) (k24:PySem.W.keepIn K (.ref f24) = true)
    (a25:PySem.W.nsIn K mainGlobals "_law_names" = some (some (.ref f25))) (l25:K.lookup f25 = some ⟨oc25,od25,.func (PySem.W.fnOf "_law_names" "_law_names" (defArgs s_names) (defBody s_names) (defScope s_names) .none kV25 dc25 pm25 an25 cd25 ct25),sl25⟩) (c25:PySem.W.codeIn K cd25 "_law_names" = true) (k25:PySem.W.keepIn K (.ref f25) = true)
    (a26:PySem.W.nsIn K mainGlobals "_law_post" = some (some (.ref f26))) (l26:K.lookup f26 = some ⟨oc26,od26,.func (PySem.W.fnOf "_law_post" "_law_post" (defArgs s_post) (defBody s_post) (defScope s_post) .none kV26 dc26 pm26 an26 cd26 ct26),sl26⟩) (c26:PySem.W.codeIn K cd26 "_law_post" = true) (k26:PySem.W.keepIn K (.ref f26) = true)
    (a27:PySem.W.nsIn K mainGlobals "_law_time" = some (some (.ref f27))) (l27:K.lookup f27 = some ⟨oc27,od27,.func (PySem.W.fnOf "_law_time" "_law_time" (defArgs s_time) (defBody s_time) (defScope s_time) .none kV27 dc27 pm27 an27 cd27 ct27),sl27⟩) (c27:PySem.W.codeIn K cd27 "_law_time" = true) (k27:PySem.W.keepIn K (.ref f27) = true)
    (a28:PySem.W.nsIn K mainGlobals "_law_posts" = some (some (.ref f28))) (l28:K.lookup f28 = some ⟨oc28,od28,.func (PySem.W.fnOf "_law_posts" "_law_posts" (defArgs s_posts) (defBody s_posts) (defScope s_posts) .none kV28 dc28 pm28 an28 cd28 ct28),sl28⟩) (c28:PySem.W.codeIn K cd28 "_law_posts" = true) (k28:PySem.W.keepIn K (.ref f28) = true)
    (a29:PySem.W.nsIn K mainGlobals "_law_plain" = some (some (.ref f29))) (l29:K.lookup f29 = some ⟨oc29,od29,.func (PySem.W.fnOf "_law_plain" "_law_plain" (defArgs s_plain) (defBody s_plain) (defScope s_plain) .none kV29 dc29 pm29 an29 cd29 ct29),sl29⟩) (c29:PySem.W.codeIn K cd29 "_law_plain" = true) (k29:PySem.W.keepIn K (.ref f29) = true)
    (a30:PySem.W.nsIn K mainGlobals "_law_row" = some (some (.ref f30))) (l30:K.lookup f30 = some ⟨oc30,od30,.func (PySem.W.fnOf "_law_row" "_law_row" (defArgs s_row) (defBody s_row) (defScope s_row) .none kV30 dc30 pm30 an30 cd30 ct30),sl30⟩) (c30:PySem.W.codeIn K cd30 "_law_row" = true) (k30:PySem.W.keepIn K (.ref f30) = true)
    (a31:PySem.W.nsIn K mainGlobals "_law_closed" = some (some (.ref f31))) (l31:K.lookup f31 = some ⟨oc31,od31,.func (PySem.W.fnOf "_law_closed" "_law_closed" (defArgs s_closed) (defBody s_closed) (defScope s_closed) .none kV31 dc31 pm31 an31 cd31 ct31),sl31⟩) (c31:PySem.W.codeIn K cd31 "_law_closed" = true) (k31:PySem.W.keepIn K (.ref f31) = true)
    (a32:PySem.W.nsIn K mainGlobals "_law_time_text" = some (some (.ref f32))) (l32:K.lookup f32 = some ⟨oc32,od32,.func (PySem.W.fnOf "_law_time_text" "_law_time_text" (defArgs s_time_text) (defBody s_time_text) (defScope s_time_text) .none kV32 dc32 pm32 an32 cd32 ct32),sl32⟩) (c32:PySem.W.codeIn K cd32 "_law_time_text" = true) (k32:PySem.W.keepIn K (.ref f32) = true)
    (a33:PySem.W.nsIn K mainGlobals "_law_row_texts" = some (some (.ref f33))) (l33:K.lookup f33 = some ⟨oc33,od33,.func (PySem.W.fnOf "_law_row_texts" "_law_row_texts" (defArgs s_row_texts) (defBody s_row_texts) (defScope s_row_texts) .none kV33 dc33 pm33 an33 cd33 ct33),sl33⟩) (c33:PySem.W.codeIn K cd33 "_law_row_texts" = true) (k33:PySem.W.keepIn K (.ref f33) = true)
    (a34:PySem.W.nsIn K mainGlobals "_law_next" = some (some (.ref f34))) (l34:K.lookup f34 = some ⟨oc34,od34,.func (PySem.W.fnOf "_law_next" "_law_next" (defArgs s_next) (defBody s_next) (defScope s_next) .none kV34 dc34 pm34 an34 cd34 ct34),sl34⟩) (c34:PySem.W.codeIn K cd34 "_law_next" = true) (k34:PySem.W.keepIn K (.ref f34) = true)
    (a35:PySem.W.nsIn K mainGlobals "_law_built" = some (some (.ref f35))) (l35:K.lookup f35 = some ⟨oc35,od35,.func (PySem.W.fnOf "_law_built" "_law_built" (defArgs s_built) (defBody s_built) (defScope s_built) .none kV35 dc35 pm35 an35 cd35 ct35),sl35⟩) (c35:PySem.W.codeIn K cd35 "_law_built" = true) (k35:PySem.W.keepIn K (.ref f35) = true)
    (a36:PySem.W.nsIn K mainGlobals "_law_text" = some (some (.ref f36))) (l36:K.lookup f36 = some ⟨oc36,od36,.func (PySem.W.fnOf "_law_text" "_law_text" (defArgs s_text) (defBody s_text) (defScope s_text) .none kV36 dc36 pm36 an36 cd36 ct36),sl36⟩) (c36:PySem.W.codeIn K cd36 "_law_text" = true) (k36:PySem.W.keepIn K (.ref f36) = true)
    (a37:PySem.W.nsIn K mainGlobals "law" = some (some (.ref f37))) (l37:K.lookup f37 = some ⟨oc37,od37,.func (PySem.W.fnOf "law" "law" (defArgs s_law) (defBody s_law) (defScope s_law) .none kV37 dc37 pm37 an37 cd37 ct37),sl37⟩) (c37:PySem.W.codeIn K cd37 "law" = true) (k37:PySem.W.keepIn K (.ref f37) = true)
    (gl_FIGURES:PySem.W.nsIn K mainGlobals "FIGURES" = some (some (.str "0123456789" tk_FIGURES)))
    (gl_MOST_FIGURES:PySem.W.nsIn K mainGlobals "MOST_FIGURES" = some (some (.int 12 tk_MOST_FIGURES)))
    (gl_LETTERS:PySem.W.nsIn K mainGlobals "LETTERS" = some (some (.str "abcdefghijklmnopqrstuvwxyz" tk_LETTERS)))
    (gl_MOST_LETTERS:PySem.W.nsIn K mainGlobals "MOST_LETTERS" = some (some (.int 8 tk_MOST_LETTERS)))
    (gl_MOST_PARTS:PySem.W.nsIn K mainGlobals "MOST_PARTS" = some (some (.int 4 tk_MOST_PARTS)))
    (gl_MOST_PARAMS:PySem.W.nsIn K mainGlobals "MOST_PARAMS" = some (some (.int 8 tk_MOST_PARAMS)))
    (gl_MOST_ROWS:PySem.W.nsIn K mainGlobals "MOST_ROWS" = some (some (.int 60 tk_MOST_ROWS)))
    (gd_FEWEST_POSTS:PySem.W.nsIn K mainGlobals "FEWEST_POSTS" = some (some (.ref ad_FEWEST_POSTS))) (ld_FEWEST_POSTS:K.lookup ad_FEWEST_POSTS = some ⟨.type "dict",none,.dict #[⟨h0_FEWEST_POSTS,.str "row" t0_FEWEST_POSTS,.int 2 u0_FEWEST_POSTS⟩,⟨h1_FEWEST_POSTS,.str "star" t1_FEWEST_POSTS,.int 2 u1_FEWEST_POSTS⟩,⟨h2_FEWEST_POSTS,.str "ring" t2_FEWEST_POSTS,.int 3 u2_FEWEST_POSTS⟩] ep_FEWEST_POSTS,#[]⟩) (e0_FEWEST_POSTS:h0_FEWEST_POSTS = keyH w (Sum.inr "row")) (e1_FEWEST_POSTS:h1_FEWEST_POSTS = keyH w (Sum.inr "star")) (e2_FEWEST_POSTS:h2_FEWEST_POSTS = keyH w (Sum.inr "ring")) (ns_FEWEST_POSTS:(ad_FEWEST_POSTS == sysModules) = false)
    (z_int:PySem.W.nsIn K mainGlobals "int" = some none)
    (z_bool:PySem.W.nsIn K mainGlobals "bool" = some none)
    (z_str:PySem.W.nsIn K mainGlobals "str" = some none)
    (z_list:PySem.W.nsIn K mainGlobals "list" = some none)
    (z_tuple:PySem.W.nsIn K mainGlobals "tuple" = some none)
    (z_dict:PySem.W.nsIn K mainGlobals "dict" = some none)
    (z_set:PySem.W.nsIn K mainGlobals "set" = some none)
    (z_range:PySem.W.nsIn K mainGlobals "range" = some none)
    (z_enumerate:PySem.W.nsIn K mainGlobals "enumerate" = some none)
    (z_zip:PySem.W.nsIn K mainGlobals "zip" = some none)
    (z_reversed:PySem.W.nsIn K mainGlobals "reversed" = some none)
    (z_len:PySem.W.nsIn K mainGlobals "len" = some none)
    (z_abs:PySem.W.nsIn K mainGlobals "abs" = some none)
    (z_max:PySem.W.nsIn K mainGlobals "max" = some none)
    (z_min:PySem.W.nsIn K mainGlobals "min" = some none)
    (z_isinstance:PySem.W.nsIn K mainGlobals "isinstance" = some none)
    (z_sorted:PySem.W.nsIn K mainGlobals "sorted" = some none)
    (z_all:PySem.W.nsIn K mainGlobals "all" = some none)
    (z_any:PySem.W.nsIn K mainGlobals "any" = some none)
    (z_sum:PySem.W.nsIn K mainGlobals "sum" = some none) :
    ∃ fd:FuncData,(∀ (s:Shared) (v:Value),BindsTo s fd ⟨[v],[]⟩ [("_law_script",v)]) /\ ∀ base:Heap,K.In base -> base.Ns mainGlobals mg -> FnOk l.prog w K mg base CX0 9 fa fd ["_law_script"] (spLaw K):=by
  have e:=hfa.symm.trans (PySem.W.mg_of X G a37)
  cases e
  have T:Bl mg:=⟨PySem.W.mg_none_of X G z_int,PySem.W.mg_none_of X G z_bool,PySem.W.mg_none_of X G z_str,PySem.W.mg_none_of X G z_list,PySem.W.mg_none_of X G z_tuple,PySem.W.mg_none_of X G z_dict,PySem.W.mg_none_of X G z_set,PySem.W.mg_none_of X G z_range,PySem.W.mg_none_of X G z_enumerate,PySem.W.mg_none_of X G z_zip,PySem.W.mg_none_of X G z_reversed,PySem.W.mg_none_of X G z_len,PySem.W.mg_none_of X G z_abs,PySem.W.mg_none_of X G z_max,PySem.W.mg_none_of X G z_min,PySem.W.mg_none_of X G z_isinstance,PySem.W.mg_none_of X G z_sorted,PySem.W.mg_none_of X G z_all,PySem.W.mg_none_of X G z_any,PySem.W.mg_none_of X G z_sum⟩
  have kd_FEWEST_POSTS:KDic l.prog w K ad_FEWEST_POSTS [(Sum.inr "row",.int 2),(Sum.inr "star",.int 2),(Sum.inr "ring",.int 3)]:=KDic.of3 ld_FEWEST_POSTS e0_FEWEST_POSTS e1_FEWEST_POSTS e2_FEWEST_POSTS ns_FEWEST_POSTS (by decide +kernel)
  have d_is_whole:Df K mg "is_whole" s_is_whole ["thing"]:=df_mk X G a0 l0 c0 k0 (el_1 fun _ => rfl)
  have d_common_divisor:Df K mg "common_divisor" s_common_divisor ["one","other"]:=df_mk X G a1 l1 c1 k1 (el_2 fun _ _ => rfl)
  have d_is_fraction:Df K mg "is_fraction" s_is_fraction ["thing"]:=df_mk X G a2 l2 c2 k2 (el_1 fun _ => rfl)
  have d_is_written:Df K mg "is_written" s_is_written ["word","most"]:=df_mk X G a3 l3 c3 k3 (el_2 fun _ _ => rfl)
  have d_read_time:Df K mg "read_time" s_read_time ["word"]:=df_mk X G a4 l4 c4 k4 (el_1 fun _ => rfl)
  have d_shown_whole:Df K mg "shown_whole" s_shown_whole ["whole"]:=df_mk X G a5 l5 c5 k5 (el_1 fun _ => rfl)
  have d_shown_fraction:Df K mg "shown_fraction" s_shown_fraction ["each"]:=df_mk X G a6 l6 c6 k6 (el_1 fun _ => rfl)
  have d_is_part:Df K mg "is_part" s_is_part ["text"]:=df_mk X G a7 l7 c7 k7 (el_1 fun _ => rfl)
  have d_is_post:Df K mg "is_post" s_is_post ["thing"]:=df_mk X G a8 l8 c8 k8 (el_1 fun _ => rfl)
  have d_refuse_unless:Df K mg "refuse_unless" s_refuse_unless ["holds","words"]:=df_mk X G a9 l9 c9 k9 (el_2 fun _ _ => rfl)
  have d_posts_in:Df K mg "posts_in" s_posts_in ["words","told"]:=df_mk X G a10 l10 c10 k10 (el_2 fun _ _ => rfl)
  have d_time_in:Df K mg "time_in" s_time_in ["words","word"]:=df_mk X G a11 l11 c11 k11 (el_2 fun _ _ => rfl)
  have d_run_in:Df K mg "run_in" s_run_in ["words"]:=df_mk X G a12 l12 c12 k12 (el_1 fun _ => rfl)
  have d_posts_row_in:Df K mg "posts_row_in" s_posts_row_in ["words"]:=df_mk X G a13 l13 c13 k13 (el_1 fun _ => rfl)
  have d_put_in:Df K mg "put_in" s_put_in ["words","counts"]:=df_mk X G a14 l14 c14 k14 (el_2 fun _ _ => rfl)
  have d_plain_row_in:Df K mg "plain_row_in" s_plain_row_in ["words","counts"]:=df_mk X G a15 l15 c15 k15 (el_2 fun _ _ => rfl)
  have d_piece_in:Df K mg "piece_in" s_piece_in ["lines","counts"]:=df_mk X G a16 l16 c16 k16 (el_2 fun _ _ => rfl)
  have d_end_behind:Df K mg "end_behind" s_end_behind ["lines","place"]:=df_mk X G a17 l17 c17 k17 (el_2 fun _ _ => rfl)
  have d_lines_in:Df K mg "lines_in" s_lines_in ["text"]:=df_mk X G a18 l18 c18 k18 (el_1 fun _ => rfl)
  have d_read_rows:Df K mg "read_rows" s_read_rows ["text"]:=df_mk X G a19 l19 c19 k19 (el_1 fun _ => rfl)
  have d_words_of:Df K mg "words_of" s_words_of ["row"]:=df_mk X G a20 l20 c20 k20 (el_1 fun _ => rfl)
  have d_shown_rows:Df K mg "shown_rows" s_shown_rows ["rows"]:=df_mk X G a21 l21 c21 k21 (el_1 fun _ => rfl)
  have d_cell_at:Df K mg "_law_cell_at" s_cell_at ["_law_script","_law_k"]:=df_mk X G a22 l22 c22 k22 (el_2 fun _ _ => rfl)
  have d_number:Df K mg "_law_number" s_number ["_law_script","_law_k"]:=df_mk X G a23 l23 c23 k23 (el_2 fun _ _ => rfl)
  have d_lowest:Df K mg "_law_lowest" s_lowest ["_law_top","_law_bottom"]:=df_mk X G a24 l24 c24 k24 (el_2 fun _ _ => rfl)
  have d_names:Df K mg "_law_names" s_names ["_law_script"]:=df_mk X G a25 l25 c25 k25 (el_1 fun _ => rfl)
  have d_post:Df K mg "_law_post" s_post ["_law_number_here","_law_names_here"]:=df_mk X G a26 l26 c26 k26 (el_2 fun _ _ => rfl)
  have d_time:Df K mg "_law_time" s_time ["_law_number_here"]:=df_mk X G a27 l27 c27 k27 (el_1 fun _ => rfl)
  have d_posts:Df K mg "_law_posts" s_posts ["_law_number_here","_law_names_here","_law_many"]:=df_mk X G a28 l28 c28 k28 (el_3 fun _ _ _ => rfl)
  have d_plain:Df K mg "_law_plain" s_plain ["_law_number_here","_law_names_here"]:=df_mk X G a29 l29 c29 k29 (el_2 fun _ _ => rfl)
  have d_row:Df K mg "_law_row" s_row ["_law_number_here","_law_names_here","_law_known"]:=df_mk X G a30 l30 c30 k30 (el_3 fun _ _ _ => rfl)
  have d_closed:Df K mg "_law_closed" s_closed ["_law_state"]:=df_mk X G a31 l31 c31 k31 (el_1 fun _ => rfl)
  have d_time_text:Df K mg "_law_time_text" s_time_text ["_law_time_here"]:=df_mk X G a32 l32 c32 k32 (el_1 fun _ => rfl)
  have d_row_texts:Df K mg "_law_row_texts" s_row_texts ["_law_row_here"]:=df_mk X G a33 l33 c33 k33 (el_1 fun _ => rfl)
  have d_next:Df K mg "_law_next" s_next ["_law_number_here","_law_state","_law_names_here"]:=df_mk X G a34 l34 c34 k34 (el_3 fun _ _ _ => rfl)
  have d_built:Df K mg "_law_built" s_built ["_law_script","_law_first","_law_end"]:=df_mk X G a35 l35 c35 k35 (el_3 fun _ _ _ => rfl)
  have d_text:Df K mg "_law_text" s_text ["_law_rows"]:=df_mk X G a36 l36 c36 k36 (el_1 fun _ => rfl)
  have FL:=fun_mk (st:=s_law) l37 c37 k37
  refine ⟨PySem.W.fnOf "law" "law" (defArgs s_law) (defBody s_law) (defScope s_law) .none kV37 dc37 pm37 an37 cd37 ct37,fun s v => .of_eq rfl,fun base _ _ => ?_⟩
  have o_is_whole:Okf l.prog w K mg base 1 "is_whole" ["thing"]   (spWhole K):=ok_is_whole (k:=0) T d_is_whole
  have o_common_divisor:Okf l.prog w K mg base 1 "common_divisor" ["one","other"]   spGcd:=ok_common_divisor (k:=0) T d_common_divisor
  have o_is_fraction:Okf l.prog w K mg base 2 "is_fraction" ["thing"]   (spIsFrac K):=ok_is_fraction (k:=1) T d_is_fraction (o_common_divisor.mono (by decide)) (o_is_whole.mono (by decide))
  have o_is_written:Okf l.prog w K mg base 1 "is_written" ["word","most"]   spWrit:=ok_is_written (k:=0) T d_is_written (PySem.W.mg_of X G gl_FIGURES)
  have o_read_time:Okf l.prog w K mg base 3 "read_time" ["word"]   spReadT:=ok_read_time (k:=2) T d_read_time (PySem.W.mg_of X G gl_MOST_FIGURES) (o_is_fraction.mono (by decide)) (o_is_written.mono (by decide))
  have o_shown_whole:Okf l.prog w K mg base 1 "shown_whole" ["whole"]   spShownW:=ok_shown_whole (k:=0) T d_shown_whole
  have o_shown_fraction:Okf l.prog w K mg base 2 "shown_fraction" ["each"]   spShownF:=ok_shown_fraction (k:=1) T d_shown_fraction (o_shown_whole.mono (by decide))
  have o_is_part:Okf l.prog w K mg base 1 "is_part" ["text"]   spPart:=ok_is_part (k:=0) T d_is_part (PySem.W.mg_of X G gl_LETTERS) (PySem.W.mg_of X G gl_MOST_LETTERS)
  have o_is_post:Okf l.prog w K mg base 2 "is_post" ["thing"]   (spPost K):=ok_is_post (k:=1) T d_is_post (PySem.W.mg_of X G gl_MOST_PARTS) (o_is_part.mono (by decide))
  have o_refuse_unless:Okf l.prog w K mg base 1 "refuse_unless" ["holds","words"]   spRefU:=ok_refuse_unless (k:=0) T d_refuse_unless
  have o_posts_in:Okf l.prog w K mg base 3 "posts_in" ["words","told"]   (spPostsIn K):=ok_posts_in (k:=2) T d_posts_in (o_is_post.mono (by decide)) (o_refuse_unless.mono (by decide))
  have o_time_in:Okf l.prog w K mg base 4 "time_in" ["words","word"]   spTimeIn:=ok_time_in (k:=3) T d_time_in (o_refuse_unless.mono (by decide)) (o_read_time.mono (by decide))
  have o_run_in:Okf l.prog w K mg base 5 "run_in" ["words"]   (spRunIn K):=ok_run_in (k:=4) T d_run_in (o_time_in.mono (by decide)) (o_posts_in.mono (by decide)) (o_refuse_unless.mono (by decide))
  have o_posts_row_in:Okf l.prog w K mg base 5 "posts_row_in" ["words"]   (spPostsRow K):=ok_posts_row_in (k:=4) T d_posts_row_in (PySem.W.mg_of X G gd_FEWEST_POSTS) kd_FEWEST_POSTS (o_posts_in.mono (by decide)) (o_time_in.mono (by decide)) (o_refuse_unless.mono (by decide))
  have o_put_in:Okf l.prog w K mg base 4 "put_in" ["words","counts"]   (spPutIn K):=ok_put_in (k:=3) T d_put_in (o_posts_in.mono (by decide)) (o_refuse_unless.mono (by decide)) (o_is_part.mono (by decide))
  have o_plain_row_in:Okf l.prog w K mg base 6 "plain_row_in" ["words","counts"]   (spPlainIn K):=ok_plain_row_in (k:=5) T d_plain_row_in (PySem.W.mg_of X G gd_FEWEST_POSTS) kd_FEWEST_POSTS (o_put_in.mono (by decide)) (o_refuse_unless.mono (by decide)) (o_posts_row_in.mono (by decide)) (o_run_in.mono (by decide))
  have o_piece_in:Okf l.prog w K mg base 7 "piece_in" ["lines","counts"]   (spPieceIn K):=ok_piece_in (k:=6) T d_piece_in (PySem.W.mg_of X G gl_MOST_PARAMS) (o_plain_row_in.mono (by decide)) (o_refuse_unless.mono (by decide)) (o_is_part.mono (by decide))
  have o_end_behind:Okf l.prog w K mg base 1 "end_behind" ["lines","place"]   (spEndB K):=ok_end_behind (k:=0) T d_end_behind
  have o_lines_in:Okf l.prog w K mg base 1 "lines_in" ["text"]   (spLinesIn K):=ok_lines_in (k:=0) T d_lines_in (PySem.W.mg_of X G gl_MOST_ROWS)
  have o_read_rows:Okf l.prog w K mg base 8 "read_rows" ["text"]   (spReadRows K):=ok_read_rows (k:=7) T d_read_rows (o_piece_in.mono (by decide)) (o_end_behind.mono (by decide)) (o_plain_row_in.mono (by decide)) (o_lines_in.mono (by decide))
  have o_words_of:Okf l.prog w K mg base 3 "words_of" ["row"]   (spWordsOf K):=ok_words_of (k:=2) T d_words_of (o_shown_fraction.mono (by decide))
  have o_shown_rows:Okf l.prog w K mg base 4 "shown_rows" ["rows"]   (spShownR K):=ok_shown_rows (k:=3) T d_shown_rows (o_words_of.mono (by decide))
  have o_cell_at:Okf l.prog w K mg base 1 "_law_cell_at" ["_law_script","_law_k"]   (spCell K):=ok_cell_at (k:=0) T d_cell_at
  have o_number:Okf l.prog w K mg base 2 "_law_number" ["_law_script","_law_k"]   (spNumW K):=ok_number (k:=1) T d_number (o_cell_at.mono (by decide))
  have o_lowest:Okf l.prog w K mg base 1 "_law_lowest" ["_law_top","_law_bottom"]   spLowest:=ok_lowest (k:=0) T d_lowest
  have o_names:Okf l.prog w K mg base 3 "_law_names" ["_law_script"]   (spNames74 K):=ok_names (k:=2) T d_names (o_number.mono (by decide))
  have o_post:Okf l.prog w K mg base 1 "_law_post" ["_law_number_here","_law_names_here"]   spPost73:=ok_post (k:=0) T d_post
  have o_time:Okf l.prog w K mg base 2 "_law_time" ["_law_number_here"]   spTime73:=ok_time (k:=1) T d_time (o_lowest.mono (by decide))
  have o_posts:Okf l.prog w K mg base 2 "_law_posts" ["_law_number_here","_law_names_here","_law_many"]   spPosts73:=ok_posts (k:=1) T d_posts (o_post.mono (by decide))
  have o_plain:Okf l.prog w K mg base 3 "_law_plain" ["_law_number_here","_law_names_here"]   spPlain73:=ok_plain (k:=2) T d_plain (o_time.mono (by decide)) (o_posts.mono (by decide))
  have o_row:Okf l.prog w K mg base 4 "_law_row" ["_law_number_here","_law_names_here","_law_known"]   (spRow74 K):=ok_row (k:=3) T d_row (o_plain.mono (by decide)) (o_posts.mono (by decide))
  have o_closed:Okf l.prog w K mg base 1 "_law_closed" ["_law_state"]   (spClosed K):=ok_closed (k:=0) T d_closed
  have o_time_text:Okf l.prog w K mg base 1 "_law_time_text" ["_law_time_here"]   spTimeTx:=ok_time_text (k:=0) T d_time_text
  have o_row_texts_in:=ok_row_texts_in (P:=l.prog) (w:=w) (base:=base) (k:=1) T d_row_texts (o_time_text.mono (by decide))
  have o_row_texts:Okf l.prog w K mg base 3 "_law_row_texts" ["_law_row_here"]   (spRowTx K):=ok_row_texts (k:=2) T d_row_texts (o_row_texts_in.mono (by decide)) (o_time_text.mono (by decide))
  have o_next:Okf l.prog w K mg base 5 "_law_next" ["_law_number_here","_law_state","_law_names_here"]   (spNext K):=ok_next (k:=4) T d_next (o_closed.mono (by decide)) (o_row_texts.mono (by decide)) (o_row.mono (by decide))
  have o_built:Okf l.prog w K mg base 6 "_law_built" ["_law_script","_law_first","_law_end"]   (spBuilt K):=ok_built (k:=5) T d_built (o_closed.mono (by decide)) (o_number.mono (by decide)) (o_next.mono (by decide)) (o_names.mono (by decide))
  have o_text:Okf l.prog w K mg base 4 "_law_text" ["_law_rows"]   (spText71 K):=ok_text (k:=3) T d_text (o_row_texts.mono (by decide))
  exact ok_law (k:=8) T FL (o_shown_rows.mono (by decide)) (o_read_rows.mono (by decide)) (o_text.mono (by decide)) (o_built.mono (by decide))
theorem walk {l:PySem.W.OpenLaw} {q:Program} {loose:List Str} {XP:(Str -> Option Value) -> Heap -> Prop} {YP:World -> Heap -> Prop} {d:DefRec} {K:Params -> PySem.W.Frag} (hn:l.most = some 63) (hdf:d.params.defaults = [])
    (hY:∀ (w:World) (h:Heap),YP w h -> (K w.params).In h)
    (F:∀ (w:World) (mg:Str -> Option Value) (fa:Addr) (h:Heap),(K w.params).In h -> h.Ns mainGlobals mg -> mg d.name = some (.ref fa) ->
      ∃ fd:FuncData,(∀ (s:Shared) (u:Value),BindsTo s fd ⟨[u],[]⟩ [("_law_script",u)]) /\ ∀ base:Heap,(K w.params).In base -> base.Ns mainGlobals mg -> FnOk l.prog w (K w.params) mg base CX0 9 fa fd ["_law_script"] (spLaw (K w.params))) :
    PySem.W.WalkO q loose XP YP l.row.toRowW d [] (fun f vs => PySem.call f vs) :=
  L2.walk_of (n:=63) (k:=9) (x:="_law_script") (CX:=fun _ => CX0) (sp:=fun w => spLaw (K w.params)) hn (by decide) hdf ⟨rfl,by decide,by decide⟩ hY F (fun _ _ a ns hl _ hS => ⟨a,ns,rfl,hS,hl,fun _ => rfl⟩) fun _ _ _ _ _ z => z
open PySem.W in
theorem zwalk {q:Program} {loose:List Str} {XP:(Str -> Option Value) -> Heap -> Prop} {r:RowW} {d:DefRec} {kwd:List (Str×Expr)} {run:Value -> List Value -> Sem Value} {K:Params -> Frag} {as:List Addr} {n t:Nat} (e:∀ P:Params,as = List.map (fun x => x.fst) (K P))
    (W:WalkO q loose XP (kHook K as e).says r d kwd run):WalkX q loose XP (X.obsZ as) (X.valZ K n t) r d kwd run :=
  fun w s₀ s₁ mg mb G y a o pm cd doc dV kV ho hd hcd hD hmg hg args vals as' L hpre hlay hrd hwl hlo =>
    W w s₀ s₁ mg mb G ((kHook K as e).keeps w s₀.heap s₁.heap ((kHook K as e).of w s₀ (congrArg Prod.fst y)) L.keeps) a o pm cd doc dV kV ho hd hcd hD hmg hg args vals as' hpre hlay hrd hwl hlo
end Lw
open PySem PySem.W PyProof.Rows
set_option maxRecDepth 100000 in
set_option maxHeartbeats 0 in
theorem PySem.Challenge.cw_tilefall_k71_rows_read_holds : PySem.Challenge.rw_tilefall_k71_rows_read.Holds := by
  w_on; o_law; z_head; (case hw => w_witness2)
  k_fill
  refine Lw.zwalk (fun _ => rfl) ?_
  refine Lw.walk (l := PySem.Challenge.rw_tilefall_k71_rows_read) rfl rfl (fun w h Y => PySem.W.kIn_of Y) ?F
  case F =>
    intro w mg fa h KX G hmg
    refine' Lw.all_mk KX G hmg ?a0 ?l0 ?c0 ?k0 ?a1 ?l1 ?c1 ?k1 ?a2 ?l2 ?c2 ?k2 ?a3 ?l3 ?c3 ?k3 ?a4 ?l4 ?c4 ?k4 ?a5 ?l5 ?c5 ?k5 ?a6 ?l6 ?c6 ?k6 ?a7 ?l7 ?c7 ?k7 ?a8 ?l8 ?c8 ?k8 ?a9 ?l9 ?c9 ?k9 ?a10 ?l10 ?c10 ?k10 ?a11 ?l11 ?c11 ?k11 ?a12 ?l12 ?c12 ?k12 ?a13 ?l13 ?c13 ?k13 ?a14 ?l14 ?c14 ?k14 ?a15 ?l15 ?c15 ?k15 ?a16 ?l16 ?c16 ?k16 ?a17 ?l17 ?c17 ?k17 ?a18 ?l18 ?c18 ?k18 ?a19 ?l19 ?c19 ?k19 ?a20 ?l20 ?c20 ?k20 ?a21 ?l21 ?c21 ?k21 ?a22 ?l22 ?c22 ?k22 ?a23 ?l23 ?c23 ?k23 ?a24 ?l24 ?c24 ?k24 ?a25 ?l25 ?c25 ?k25 ?a26 ?l26 ?c26 ?k26 ?a27 ?l27 ?c27 ?k27 ?a28 ?l28 ?c28 ?k28 ?a29 ?l29 ?c29 ?k29 ?a30 ?l30 ?c30 ?k30 ?a31 ?l31 ?c31 ?k31 ?a32 ?l32 ?c32 ?k32 ?a33 ?l33 ?c33 ?k33 ?a34 ?l34 ?c34 ?k34 ?a35 ?l35 ?c35 ?k35 ?a36 ?l36 ?c36 ?k36 ?a37 ?l37 ?c37 ?k37 ?gl_FIGURES ?gl_MOST_FIGURES ?gl_LETTERS ?gl_MOST_LETTERS ?gl_MOST_PARTS ?gl_MOST_PARAMS ?gl_MOST_ROWS ?gd_FEWEST_POSTS ?ld_FEWEST_POSTS ?e0_FEWEST_POSTS ?e1_FEWEST_POSTS ?e2_FEWEST_POSTS ?ns_FEWEST_POSTS ?z_int ?z_bool ?z_str ?z_list ?z_tuple ?z_dict ?z_set ?z_range ?z_enumerate ?z_zip ?z_reversed ?z_len ?z_abs ?z_max ?z_min ?z_isinstance ?z_sorted ?z_all ?z_any ?z_sum
    (case a0 => k_is); (case l0 => k_is); (case c0 => k_is); (case k0 => k_is)
    (case a1 => k_is); (case l1 => k_is); (case c1 => k_is); (case k1 => k_is)
    (case a2 => k_is); (case l2 => k_is); (case c2 => k_is); (case k2 => k_is)
    (case a3 => k_is); (case l3 => k_is); (case c3 => k_is); (case k3 => k_is)
    (case a4 => k_is); (case l4 => k_is); (case c4 => k_is); (case k4 => k_is)
    (case a5 => k_is); (case l5 => k_is); (case c5 => k_is); (case k5 => k_is)
    (case a6 => k_is); (case l6 => k_is); (case c6 => k_is); (case k6 => k_is)
    (case a7 => k_is); (case l7 => k_is); (case c7 => k_is); (case k7 => k_is)
    (case a8 => k_is); (case l8 => k_is); (case c8 => k_is); (case k8 => k_is)
    (case a9 => k_is); (case l9 => k_is); (case c9 => k_is); (case k9 => k_is)
    (case a10 => k_is); (case l10 => k_is); (case c10 => k_is); (case k10 => k_is)
    (case a11 => k_is); (case l11 => k_is); (case c11 => k_is); (case k11 => k_is)
    (case a12 => k_is); (case l12 => k_is); (case c12 => k_is); (case k12 => k_is)
    (case a13 => k_is); (case l13 => k_is); (case c13 => k_is); (case k13 => k_is)
    (case a14 => k_is); (case l14 => k_is); (case c14 => k_is); (case k14 => k_is)
    (case a15 => k_is); (case l15 => k_is); (case c15 => k_is); (case k15 => k_is)
    (case a16 => k_is); (case l16 => k_is); (case c16 => k_is); (case k16 => k_is)
    (case a17 => k_is); (case l17 => k_is); (case c17 => k_is); (case k17 => k_is)
    (case a18 => k_is); (case l18 => k_is); (case c18 => k_is); (case k18 => k_is)
    (case a19 => k_is); (case l19 => k_is); (case c19 => k_is); (case k19 => k_is)
    (case a20 => k_is); (case l20 => k_is); (case c20 => k_is); (case k20 => k_is)
    (case a21 => k_is); (case l21 => k_is); (case c21 => k_is); (case k21 => k_is)
    (case a22 => k_is); (case l22 => k_is); (case c22 => k_is); (case k22 => k_is)
    (case a23 => k_is); (case l23 => k_is); (case c23 => k_is); (case k23 => k_is)
    (case a24 => k_is); (case l24 => k_is); (case c24 => k_is); (case k24 => k_is)
    (case a25 => k_is); (case l25 => k_is); (case c25 => k_is); (case k25 => k_is)
    (case a26 => k_is); (case l26 => k_is); (case c26 => k_is); (case k26 => k_is)
    (case a27 => k_is); (case l27 => k_is); (case c27 => k_is); (case k27 => k_is)
    (case a28 => k_is); (case l28 => k_is); (case c28 => k_is); (case k28 => k_is)
    (case a29 => k_is); (case l29 => k_is); (case c29 => k_is); (case k29 => k_is)
    (case a30 => k_is); (case l30 => k_is); (case c30 => k_is); (case k30 => k_is)
    (case a31 => k_is); (case l31 => k_is); (case c31 => k_is); (case k31 => k_is)
    (case a32 => k_is); (case l32 => k_is); (case c32 => k_is); (case k32 => k_is)
    (case a33 => k_is); (case l33 => k_is); (case c33 => k_is); (case k33 => k_is)
    (case a34 => k_is); (case l34 => k_is); (case c34 => k_is); (case k34 => k_is)
    (case a35 => k_is); (case l35 => k_is); (case c35 => k_is); (case k35 => k_is)
    (case a36 => k_is); (case l36 => k_is); (case c36 => k_is); (case k36 => k_is)
    (case a37 => k_is); (case l37 => k_is); (case c37 => k_is); (case k37 => k_is)
    (case gl_FIGURES => k_is)
    (case gl_MOST_FIGURES => k_is)
    (case gl_LETTERS => k_is)
    (case gl_MOST_LETTERS => k_is)
    (case gl_MOST_PARTS => k_is)
    (case gl_MOST_PARAMS => k_is)
    (case gl_MOST_ROWS => k_is)
    (case gd_FEWEST_POSTS => k_is); (case ld_FEWEST_POSTS => k_is); (case e0_FEWEST_POSTS => exact rfl); (case e1_FEWEST_POSTS => exact rfl); (case e2_FEWEST_POSTS => exact rfl); (case ns_FEWEST_POSTS => first | exact rfl | k_is)
    (case z_int => k_is)
    (case z_bool => k_is)
    (case z_str => k_is)
    (case z_list => k_is)
    (case z_tuple => k_is)
    (case z_dict => k_is)
    (case z_set => k_is)
    (case z_range => k_is)
    (case z_enumerate => k_is)
    (case z_zip => k_is)
    (case z_reversed => k_is)
    (case z_len => k_is)
    (case z_abs => k_is)
    (case z_max => k_is)
    (case z_min => k_is)
    (case z_isinstance => k_is)
    (case z_sorted => k_is)
    (case z_all => k_is)
    (case z_any => k_is)
    (case z_sum => k_is)
#print axioms PySem.Challenge.cw_tilefall_k71_rows_read_holds
