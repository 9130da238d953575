import PyProof.Rows.All
import Wide.All
import OpenK.AllK
import Wide.FinOn
import Lean
import PyProof.EqAt
import PyProof.EqKinds
import PyProof.TupleCall
import PyProof.NeKinds
import KE.KTryMore
import KE.RegKTryMore
import KE.RegKIsAll
import PyProof.ExcBaseAll.ValueError
import PyProof.ExcBaseAll.Exception
import PyProof.ExcAttrAll.ValueError
import KE.KRevSl
import KE.KLam
import KE.KNestM
import KE.KSortKey
import PyProof.ZipIter
import PyProof.SeqI3
import PySem.Challenge.RW_tilefall_k61_times_made_of_a_box
set_option Elab.async false
set_option linter.all false
set_option maxRecDepth 100000
namespace L2
open PySem PySem.Spec PyProof.Rows
noncomputable abbrev Key:=Sum Int Str
noncomputable def keyIs:Key -> Value -> Bool
  | .inl k,v => Value.isInt k v
  | .inr x,v => Value.isStrOf x v
noncomputable def keyH (w:World):Key -> Int
  | .inl k => hashInt k
  | .inr x => hashStr w x
theorem keyIs_shape:∀ {k:Key} {v:Value},keyIs k v = true -> (∃ i t,k = Sum.inl i /\ v = Value.int i t) ∨ (∃ x t,k = Sum.inr x /\ v = Value.str x t)
  | .inl i,v,h => by
    obtain ⟨t,e⟩:=Value.isInt_shape (k:=i) (v:=v) h
    exact .inl ⟨i,t,rfl,e⟩
  | .inr x,v,h => by
    obtain ⟨t,e⟩:=Value.isStrOf_shape (x:=x) (v:=v) h
    exact .inr ⟨x,t,rfl,e⟩
theorem key_ll (a b:Int):decide ((Sum.inl a:Key) = Sum.inl b) = (a == b):=by
  by_cases e:a = b
  . subst e; simp
  . have h:¬ (Sum.inl a:Key) = Sum.inl b:=fun q => e (Sum.inl.inj q)
    rw [decide_eq_false h]
    exact (beq_eq_false_iff_ne.mpr e).symm
theorem key_rr (a b:Str):decide ((Sum.inr a:Key) = Sum.inr b) = decide (a = b):=by
  by_cases e:a = b
  . subst e; simp
  . have h:¬ (Sum.inr a:Key) = Sum.inr b:=fun q => e (Sum.inr.inj q)
    rw [decide_eq_false h,decide_eq_false e]
theorem key_lr (a:Int) (b:Str):decide ((Sum.inl a:Key) = Sum.inr b) = false:=decide_eq_false (fun q => nomatch q)
theorem key_rl (a:Str) (b:Int):decide ((Sum.inr a:Key) = Sum.inl b) = false:=decide_eq_false (fun q => nomatch q)
noncomputable def mixKind (prog:Program) (w:World):PySem.KeyKind prog w Key where
  is:=keyIs
  hash:=keyH w
  inj:=fun v a b ha hb => by
    rcases keyIs_shape ha with ⟨i,t,rfl,rfl⟩ | ⟨x,t,rfl,rfl⟩
    . rcases keyIs_shape hb with ⟨j,u,rfl,e⟩ | ⟨y,u,rfl,e⟩
      . injection e with e1 _; rw [e1]
      . exact nomatch e
    . rcases keyIs_shape hb with ⟨j,u,rfl,e⟩ | ⟨y,u,rfl,e⟩
      . exact nomatch e
      . injection e with e1 _; rw [e1]
  byValue:=fun k v h => by
    rcases keyIs_shape h with ⟨i,t,rfl,rfl⟩ | ⟨x,t,rfl,rfl⟩ <;> rfl
  pyHash:=fun hv h => by
    rcases keyIs_shape hv with ⟨i,t,rfl,rfl⟩ | ⟨x,t,rfl,rfl⟩
    . exact wpAny_pyHash_int h
    . exact wpAny_pyHash_str h
  eqBool:=fun hu hv h => by
    rcases keyIs_shape hu with ⟨i,t,rfl,rfl⟩ | ⟨x,t,rfl,rfl⟩
    . rcases keyIs_shape hv with ⟨j,u,rfl,rfl⟩ | ⟨y,u,rfl,rfl⟩
      . rw [key_ll] at h; exact wpAny_eqBool_int h
      . rw [key_lr] at h; exact SeqAt.EqAt.int_str i t y u _ _ _ _ h
    . rcases keyIs_shape hv with ⟨j,u,rfl,rfl⟩ | ⟨y,u,rfl,rfl⟩
      . rw [key_rl] at h; exact SeqAt.EqAt.str_int x t j u _ _ _ _ h
      . rw [key_rr] at h; exact wpAny_eqBool_str h
  «strs»:=fun k x t v h => by
    rcases keyIs_shape h with ⟨i,u,rfl,e⟩ | ⟨y,u,rfl,e⟩
    . exact nomatch e
    . injection e with e1 _
      subst e1
      cases v <;> rfl
end L2
namespace L2
open PySem PySem.Spec PyProof.Rows
inductive V where
  | non | bl (b:Bool) | int (i:Int) | str (x:Str) | byt (b:Array UInt8) | flt (b:UInt64) | ref (a:Addr) | ty (n:String)
  deriving DecidableEq
noncomputable def RelV:V -> Value -> Prop
  | .non,u => u = Value.none
  | .bl b,u => u = Value.bool b
  | .int i,u => ∃ t,u = Value.int i t
  | .str x,u => ∃ t,u = Value.str x t
  | .byt b,u => ∃ t,u = Value.bytes b t
  | .flt b,u => ∃ t,u = Value.float b t
  | .ref a,u => u = Value.ref a
  | .ty n,u => u = Value.type n
noncomputable abbrev Vals:List V -> List Value -> Prop:=Paired RelV
theorem Vals.length {xs:List V} {us:List Value} (r:Vals xs us):xs.length = us.length:=Paired.length r
theorem Vals.get:∀ {xs:List V} {us:List Value} {i:Nat} {x:V},Vals xs us -> xs[i]? = some x -> ∃ u,us[i]? = some u /\ RelV x u
  | _,_,_,_,.nil,e => by simp at e
  | _,_,0,_,.cons r _,e => by simp at e; subst e; exact ⟨_,rfl,r⟩
  | _,_,i + 1,x,.cons _ t,e => by
    obtain ⟨u,h1,h2⟩:=Vals.get (i:=i) (x:=x) t (by simpa using e)
    exact ⟨u,by simpa using h1,h2⟩
theorem Vals.set {x:V} {u:Value} (r:RelV x u):∀ {xs:List V} {us:List Value} (i:Nat),Vals xs us -> Vals (xs.set i x) (us.set i u)
  | _,_,_,.nil => .nil
  | _,_,0,.cons _ t => .cons r t
  | _,_,i + 1,.cons q t => .cons q (Vals.set r i t)
theorem Vals.append:∀ {xs ys:List V} {us ws:List Value},Vals xs us -> Vals ys ws -> Vals (xs ++ ys) (us ++ ws)
  | _,_,_,_,.nil,s => s
  | _,_,_,_,.cons r t,s => .cons r (Vals.append t s)
theorem Vals.take:∀ {xs:List V} {us:List Value} (n:Nat),Vals xs us -> Vals (xs.take n) (us.take n)
  | _,_,0,_ => .nil
  | _,_,_ + 1,.nil => .nil
  | _,_,n + 1,.cons r t => .cons r (Vals.take n t)
theorem Vals.none_of:∀ {xs:List V} {us:List Value} {i:Nat},Vals xs us -> xs[i]? = none -> us[i]? = none:=fun {xs us i} r e => by
  have h1:=r.length
  have h2:xs.length <= i:=List.getElem?_eq_none_iff.mp e
  exact List.getElem?_eq_none_iff.mpr (by omega)
noncomputable def RelO:Option V -> Option Value -> Prop
  | some v,some u => RelV v u
  | none,none => True
  | _,_ => False
noncomputable def KV {κ:Type}:List (κ×V) -> List (κ×Value) -> Prop:=Paired fun (p:κ×V) (q:κ×Value) => p.1 = q.1 /\ RelV p.2 q.2
noncomputable def kV:Key -> V
  | .inl i => .int i
  | .inr x => .str x
inductive HO where
    | lst (xs:List V)
    | tup (xs:List V)
    | dK (kvs:List (Key×V)) | dT (kvs:List (List Key×V))
    | set (S:Int -> Bool) (n:Nat)
    | ins (C dx:Addr) (fs:List (Str×V))
    | own (x:Addr)
    | xd (fs:List (Str×V))
    | met (f x:Addr)
    | rng (lo hi:Int)
    | frz (o:Obj) (u:HO)
    | tbl (ps:Array Value)
    | ext (φ:Heap -> Prop)
noncomputable abbrev Hp:=Addr -> Option HO
noncomputable def upd (H:Hp) (a:Addr) (o:HO):Hp:=fun b => if b = a then some o else H b
theorem upd_same {H:Hp} {a:Addr} {o:HO}:upd H a o a = some o:=by unfold upd; rw [if_pos rfl]
theorem upd_ne {H:Hp} {a b:Addr} {o:HO} (h:b ≠ a):upd H a o b = H b:=by unfold upd; rw [if_neg h]
theorem ne_of {H:Hp} {a b:Addr} {o u:HO} (h:H a = some o) (h':H b = some u) (d:o ≠ u):a ≠ b:=by
  intro e; subst e; rw [h] at h'; exact d (Option.some.inj h')
theorem ne_of_none {H:Hp} {a b:Addr} {o:HO} (h:H a = some o) (h':H b = none):a ≠ b:=by
  intro e; subst e; rw [h] at h'; cases h'
section
variable (P:Program) (w:World)
noncomputable def ObjOk (H:Hp) (h:Heap) (a:Addr):HO -> Prop
  | .lst xs => xs.length <= sizeLine /\ ∃ (its:List Value) (n:Nat),Vals xs its /\ h.get? a = some { cls:=.type "list",data:=.seq its.toArray n }
  | .tup xs => (xs.length <= sizeLine /\ ∃ o,h.get? a = some o /\ o.dict = none) /\ ∃ its:List Value,Vals xs its /\ IsTup h a its.toArray
  | .dK kvs => kvs.length <= sizeLine /\ (a == sysModules) = false /\ ∃ vs,KV kvs vs /\ h.DictOf (mixKind P w) a vs
  | .dT kvs => kvs.length <= sizeLine /\ (a == sysModules) = false /\ ∃ xs:List (List Key×Addr×Value),
      Paired (fun (p:List Key×V) (q:List Key×Addr×Value) => p.1 = q.1 /\ H q.2.1 = some (.tup (p.1.map kV)) /\ RelV p.2 q.2.2) kvs xs /\
      ∃ o es ep,h.get? a = some o /\ o.ExactDict /\ o.data = .dict es ep /\ es.toList = xs.map (entryOfKey (tupleKind (mixKind P w))) /\ (xs.map (·.1)).Nodup
  | .set S n => h.SetOf (intKind P w) a S n
  | .ins C dx fs => H dx = some (.own a) /\ fs.length <= 1000 /\ dx ≠ a /\ h.get? a = some (PySem.W.instObj C dx) /\
      ∃ mA,h.Ns1 dx mA /\ (∀ f,RelO (fs.lookup f) (mA f)) /\ PySem.Within mA (fs.map (·.1))
  | .own _ => ∃ o,h.get? a = some o
  | .xd fs => ∃ mA,h.Ns1 a mA /\ ∀ f,RelO (fs.lookup f) (mA f)
  | .rng lo hi => ∃ t u v,h.get? a = some { cls:=.type "range",data:=.fields #[.int lo t,.int hi u,.int 1 v] }
  | .frz o u => h.get? a = some o /\ ObjOk H h a u
  | .tbl ps => h.get? a = some { cls:=.none,data:=.fields ps }
  | .met f x => h.get? a = some (PySem.W.methodObj (.ref f) (.ref x))
  | .ext φ => φ h /\ (∃ o,h.get? a = some o) /\ ∀ h1 h2:Heap,φ h1 -> (∀ o,h1.get? a = some o -> h2.get? a = some o) -> φ h2
noncomputable def HOk (H:Hp) (h:Heap):Prop:=∀ a o,H a = some o -> ObjOk P w H h a o
end
section
variable {P:Program} {w:World} {H H':Hp} {h h':Heap} {a:Addr} {o:HO}
theorem ObjOk.lt (x:ObjOk P w H h a o):a < h.objs.size:=by
  cases o with
  | lst xs => obtain ⟨_,_,_,_,e⟩:=x; exact Heap.lt_size e
  | tup xs => obtain ⟨_,_,_,p⟩:=x; exact p.lt
  | dK kvs => obtain ⟨_,_,_,_,o,_,_,e,_⟩:=x; exact Heap.lt_size e
  | dT kvs => obtain ⟨_,_,_,_,o,_,_,e,_⟩:=x; exact Heap.lt_size e
  | set S n => obtain ⟨o,_,_,_,e,_⟩:=x; exact Heap.lt_size e
  | ins C dx fs => obtain ⟨_,_,_,e,_⟩:=x; exact Heap.lt_size e
  | own y => obtain ⟨_,e⟩:=x; exact Heap.lt_size e
  | xd fs => obtain ⟨_,⟨_,_,_,e,_⟩,_⟩:=x; exact Heap.lt_size e
  | rng lo hi => obtain ⟨_,_,_,e⟩:=x; exact Heap.lt_size e
  | frz ob u => obtain ⟨e,_⟩:=x; exact Heap.lt_size e
  | tbl ps => exact Heap.lt_size (show h.get? a = some _ from x)
  | met f y => exact Heap.lt_size (show h.get? a = some _ from x)
  | ext φ => obtain ⟨_,⟨_,e⟩,_⟩:=x; exact Heap.lt_size e
theorem Paired.mapP {α β:Type} {F G:α -> β -> Prop}:∀ {l₁:List α} {l₂:List β},Paired F l₁ l₂ -> (∀ a b,F a b -> G a b) -> Paired G l₁ l₂
  | _,_,.nil,_ => .nil
  | _,_,.cons r t,f => .cons (f _ _ r) (Paired.mapP t f)
theorem ObjOk.stay (x:ObjOk P w H h a o) (k:∀ b u,(b = a ∨ H b = some (.own a)) -> h.get? b = some u -> h'.get? b = some u)
    (ho:∀ b,H b = some (.own a) -> H' b = some (.own a)) (ht:∀ b xs,H b = some (.tup xs) -> H' b = some (.tup xs)):ObjOk P w H' h' a o:=by
  induction o with
  | lst xs => obtain ⟨z,its,n,r,e⟩:=x; exact ⟨z,its,n,r,k _ _ (.inl rfl) e⟩
  | tup xs => obtain ⟨⟨z,o1,e1,d1⟩,its,r,ob,e,c⟩:=x; exact ⟨⟨z,o1,k _ _ (.inl rfl) e1,d1⟩,its,r,ob,k _ _ (.inl rfl) e,c⟩
  | dK kvs => obtain ⟨z,y,vs,r,ob,es,ep,e,c⟩:=x; exact ⟨z,y,vs,r,ob,es,ep,k _ _ (.inl rfl) e,c⟩
  | dT kvs =>
    obtain ⟨z,y,xs,r,ob,es,ep,e,c⟩:=x
    exact ⟨z,y,xs,Paired.mapP r fun p q z => ⟨z.1,ht _ _ z.2.1,z.2.2⟩,ob,es,ep,k _ _ (.inl rfl) e,c⟩
  | set S n => obtain ⟨ob,es,ep,t,e,c⟩:=x; exact ⟨ob,es,ep,t,k _ _ (.inl rfl) e,c⟩
  | ins C dx fs =>
    obtain ⟨d,z,ne,e,mA,⟨od,es,ep,e2,c⟩,r⟩:=x
    exact ⟨ho _ d,z,ne,k _ _ (.inl rfl) e,mA,⟨od,es,ep,k _ _ (.inr d) e2,c⟩,r⟩
  | own y => obtain ⟨ob,e⟩:=x; exact ⟨ob,k _ _ (.inl rfl) e⟩
  | xd fs => obtain ⟨mA,⟨od,es,ep,e,c⟩,r⟩:=x; exact ⟨mA,⟨od,es,ep,k _ _ (.inl rfl) e,c⟩,r⟩
  | rng lo hi => obtain ⟨t,u,v,e⟩:=x; exact ⟨t,u,v,k _ _ (.inl rfl) e⟩
  | frz ob u ih => obtain ⟨e,q⟩:=x; exact ⟨k _ _ (.inl rfl) e,ih q⟩
  | tbl ps =>
    have e:h.get? a = some { cls:=.none,data:=.fields ps }:=x
    show h'.get? a = some { cls:=.none,data:=.fields ps }
    exact k a _ (.inl rfl) e
  | met f y =>
    have e:h.get? a = some (PySem.W.methodObj (.ref f) (.ref y)):=x
    show h'.get? a = some (PySem.W.methodObj (.ref f) (.ref y))
    exact k a _ (.inl rfl) e
  | ext φ => obtain ⟨p,⟨o,e⟩,st⟩:=x; exact ⟨st _ _ p fun o q => k _ _ (.inl rfl) q,⟨o,k _ _ (.inl rfl) e⟩,st⟩
theorem HOk.lt (x:HOk P w H h) (e:H a = some o):a < h.objs.size:=(x a o e).lt
theorem HOk.fresh (x:HOk P w H h) (e:h.objs.size <= a):H a = none:=by
  cases q:H a with
  | none => rfl
  | some u => exact absurd (Nat.lt_of_lt_of_le (x.lt q) e) (Nat.lt_irrefl _)
theorem HOk.kept (x:HOk P w H h) (k:∀ b u,h.get? b = some u -> h'.get? b = some u):HOk P w H h':=fun a o e =>
  (x a o e).stay (fun b u _ q => k b u q) (fun _ q => q) fun _ _ q => q
theorem HOk.laid (x:HOk P w H h) (k:∀ b u,h.get? b = some u -> h'.get? b = some u) (hp:h.objs.size <= a) (new:ObjOk P w (upd H a o) h' a o):HOk P w (upd H a o) h':=fun b u e => by
  have hn:=x.fresh hp
  by_cases hb:b = a
  . subst hb; rw [upd_same] at e; cases e; exact new
  . rw [upd_ne hb] at e
    exact (x b u e).stay (fun c v _ q => k c v q) (fun c q => by rw [upd_ne (ne_of_none q hn)]; exact q) fun c xs q => by rw [upd_ne (ne_of_none q hn)]; exact q
end
noncomputable def Rd (H:Hp) (a:Addr) (u:HO):Prop:=H a = some u ∨ ∃ o,H a = some (.frz o u)
theorem Rd.of {H:Hp} {a:Addr} {u:HO} (h:H a = some u):Rd H a u:=.inl h
theorem Rd.ok {P:Program} {w:World} {H:Hp} {h:Heap} {a:Addr} {u:HO} (r:Rd H a u) (x:HOk P w H h):ObjOk P w H h a u:=by
  rcases r with r | ⟨o,r⟩
  . exact x a u r
  . obtain ⟨_,q⟩:=x a _ r
    exact q
noncomputable def Mut:Option HO -> Prop
  | some (.lst _) => True
  | some (.dK _) => True
  | some (.dT _) => True
  | some (.set _ _) => True
  | some (.ins _ _ _) => True
  | some (.ext _) => True
  | _ => False
section
variable {P:Program} {w:World} {H:Hp} {h h':Heap} {x e:Addr} {o':HO}
theorem HOk.write (ok:HOk P w H h) (mu:Mut (H x)) (he:e = x ∨ H e = some (.own x)) (k:∀ b u,b ≠ e -> h.get? b = some u -> h'.get? b = some u) (heo:∃ u,h'.get? e = some u)
    (new:ObjOk P w (upd H x o') h' x o'):HOk P w (upd H x o') h':=fun b u q => by
  have nown:∀ c y,H c = some (.own y) -> c ≠ x:=fun c y r z => by subst z; rw [r] at mu; exact mu
  have ntup:∀ c xs,H c = some (.tup xs) -> c ≠ x:=fun c xs r z => by subst z; rw [r] at mu; exact mu
  by_cases hb:b = x
  . subst hb; rw [upd_same] at q; cases q; exact new
  . rw [upd_ne hb] at q
    by_cases hbe:b = e
    . have q':H b = some (.own x):=by
        rcases he with z | z
        . exact absurd (hbe.trans z) hb
        . rw [hbe]; exact z
      rw [q] at q'; cases q'
      obtain ⟨v,hv⟩:=heo
      exact ⟨v,by rw [hbe]; exact hv⟩
    . refine (ok b u q).stay (fun c v hc r => k c v ?_ r) (fun c r => by rw [upd_ne (nown c b r)]; exact r) fun c xs r => by rw [upd_ne (ntup c xs r)]; exact r
      rcases hc with rfl | hc
      . exact hbe
      . rintro rfl
        rcases he with z | z
        . exact nown c b hc z
        . rw [hc] at z; cases z; exact hb rfl
end
structure Un (fs ex:List Addr) (H H':Hp) (h h':Heap):Prop where
  keep:∀ b o,h.get? b = some o -> H b = none -> b ∉ fs -> b ∉ ex -> h'.get? b = some o
  slot:∀ b o,h.get? b = some o -> H b = none -> b ∈ fs -> b ∉ ex -> ∃ sl,h'.get? b = some { o with slots:=sl }
  free:∀ b o,h.get? b = some o -> H b = none -> b ∉ ex -> H' b = none
  there:∀ b o,h.get? b = some o -> b ∉ ex -> ∃ o',h'.get? b = some o'
  tups:∀ b xs,H b = some (.tup xs) -> H' b = some (.tup xs)
  frzs:∀ b o u,H b = some (.frz o u) -> H' b = some (.frz o u)
  tbls:∀ b ps,H b = some (.tbl ps) -> ∃ more,H' b = some (.tbl (ps ++ more))
section
variable {fs fs' ex ex':List Addr} {H H1 H2:Hp} {h h1 h2 h':Heap} {a x e:Addr} {o:HO}
theorem Un.any (u:Un fs ex H H1 h h1) {b:Addr} {ob:Obj} (q:h.get? b = some ob) (n:H b = none) (hx:b ∉ ex):∃ sl,h1.get? b = some { ob with slots:=sl }:=by
  by_cases hb:b ∈ fs
  . exact u.slot b ob q n hb hx
  . exact ⟨ob.slots,u.keep b ob q n hb hx⟩
theorem Un.trans (a:Un fs ex H H1 h h1) (b:Un fs ex H1 H2 h1 h2):Un fs ex H H2 h h2 where
  keep:=fun c ob q n hc hx => b.keep c ob (a.keep c ob q n hc hx) (a.free c ob q n hx) hc hx
  slot:=fun c ob q n hc hx => by
    obtain ⟨sl,e1⟩:=a.slot c ob q n hc hx
    obtain ⟨sl',e2⟩:=b.slot c _ e1 (a.free c ob q n hx) hc hx
    exact ⟨sl',e2⟩
  free:=fun c ob q n hx => by
    obtain ⟨o',e1⟩:=a.there c ob q hx
    exact b.free c o' e1 (a.free c ob q n hx) hx
  there:=fun c ob q hx => by
    obtain ⟨o',e1⟩:=a.there c ob q hx
    exact b.there c o' e1 hx
  tups:=fun c xs q => b.tups c xs (a.tups c xs q)
  frzs:=fun c ob xs q => b.frzs c ob xs (a.frzs c ob xs q)
  tbls:=fun c ps q => by
    obtain ⟨m1,e1⟩:=a.tbls c ps q
    obtain ⟨m2,e2⟩:=b.tbls c _ e1
    exact ⟨m1 ++ m2,by rw [e2,Array.append_assoc]⟩
theorem Un.kept (k:∀ b u,h.get? b = some u -> h'.get? b = some u):Un fs ex H H h h' :=
  ⟨fun b ob q _ _ _ => k b ob q,fun b ob q _ _ _ => ⟨ob.slots,k b ob q⟩,fun _ _ _ n _ => n,fun b ob q _ => ⟨ob,k b ob q⟩,fun _ _ q => q,fun _ _ _ q => q,fun _ ps q => ⟨#[],by rw [q]; simp⟩⟩
theorem Un.refl:Un fs ex H H h h:=Un.kept fun _ _ q => q
theorem Un.laid (k:∀ b u,h.get? b = some u -> h'.get? b = some u) (hp:h.objs.size <= a) (hn:H a = none):Un fs ex H (upd H a o) h h' where
  keep:=fun b u q _ _ _ => k b u q
  slot:=fun b u q _ _ _ => ⟨u.slots,k b u q⟩
  free:=fun b u q n _ => by rw [upd_ne (Nat.ne_of_lt (Nat.lt_of_lt_of_le (Heap.lt_size q) hp))]; exact n
  there:=fun b u q _ => ⟨u,k b u q⟩
  tups:=fun b xs q => by rw [upd_ne (ne_of_none q hn)]; exact q
  frzs:=fun b u xs q => by rw [upd_ne (ne_of_none q hn)]; exact q
  tbls:=fun b ps q => ⟨#[],by rw [upd_ne (ne_of_none q hn),q]; simp⟩
theorem Un.write (mu:Mut (H x)) (he:e = x ∨ H e = some (.own x)) (k:∀ b u,b ≠ e -> h.get? b = some u -> h'.get? b = some u) (heo:∃ u,h'.get? e = some u):Un fs ex H (upd H x o) h h':=by
  have hx:∀ b,H b = none -> b ≠ x:=fun b n z => by subst z; rw [n] at mu; exact mu
  have hb:∀ b,H b = none -> b ≠ e:=fun b n z => by
    subst z
    rcases he with r | r
    . exact hx b n r
    . rw [n] at r; cases r
  have hm:∀ b u,H b = some u -> ¬ Mut (some u) -> b ≠ x:=fun b u q nm z => by subst z; rw [q] at mu; exact nm mu
  refine ⟨fun b u q n _ _ => k b u (hb b n) q,fun b u q n _ _ => ⟨u.slots,k b u (hb b n) q⟩,fun b u q n _ => by rw [upd_ne (hx b n)]; exact n,fun b u q _ => ?_,
    fun b xs q => by rw [upd_ne (hm b _ q fun z => z)]; exact q,fun b u xs q => by rw [upd_ne (hm b _ q fun z => z)]; exact q,fun b ps q => ⟨#[],by rw [upd_ne (hm b _ q fun z => z),q]; simp⟩⟩
  by_cases hbe:b = e
  . subst hbe; exact heo
  . exact ⟨u,k b u hbe q⟩
theorem Un.mono (u:Un fs ex H H1 h h1) (hs:∀ b ∈ fs,b ∈ fs') (hx:∀ b ∈ ex,b ∈ ex'):Un fs' ex' H H1 h h1 :=
  ⟨fun b ob q n hb he => u.keep b ob q n (fun z => hb (hs b z)) fun z => he (hx b z),fun _ _ q n _ he => u.any q n fun z => he (hx _ z),fun b ob q n he => u.free b ob q n fun z => he (hx b z),fun b ob q he => u.there b ob q fun z => he (hx b z),u.tups,u.frzs,u.tbls⟩
end
noncomputable def trk (h:Heap) (H:Hp):List Addr:=(List.range h.objs.size).filter fun a => (H a).isSome
noncomputable def hidT (h:Heap) (H:Hp):Heap:=PySem.W.hideAll h (trk h H)
theorem hidT_size (h:Heap) (H:Hp):(hidT h H).objs.size = h.objs.size:=PySem.W.hideAll_size _ _
theorem hidT_get {h:Heap} {H:Hp} {b:Addr} {o:Obj} (e:h.get? b = some o) (n:H b = none):(hidT h H).get? b = some o :=
  PySem.W.hideAll_get _ e fun hm => by
    have q:(H b).isSome = true:=(List.mem_filter.mp hm).2
    rw [n] at q; simp at q
theorem of_hidT {h:Heap} {H:Hp} {b:Addr} {o:Obj} (e:(hidT h H).get? b = some o):h.get? b = some o /\ H b = none:=by
  have e':h.get? b = some o:=PySem.W.of_hideAll (trk h H) e
  refine ⟨e',?_⟩
  cases q:H b with
  | none => rfl
  | some x =>
    have hm:b ∈ trk h H:=List.mem_filter.mpr ⟨List.mem_range.mpr (Heap.lt_size e'),by simp [q]⟩
    have z:(hidT h H).get? b = none:=PySem.W.hideAll_none (trk h H) hm
    rw [z] at e; cases e
noncomputable def allNews (g h:Heap) (L:Addr):List (Addr×Obj):=(List.range h.objs.size).filterMap fun a => if a = L ∨ (g.get? a).isSome = true then none else (h.get? a).map fun o => (a,o)
noncomputable def rest (g h:Heap) (L d:Addr):List (Addr×Obj):=(allNews g h L).filter fun p => decide (p.1 ≠ d)
end L2
namespace L2
open PySem PySem.Spec PyProof.Rows
structure Mod (K:PySem.W.Frag) (mg:Str -> Option Value) (base:Heap):Prop where
  kin:K.In base
  glob:base.Ns mainGlobals mg
  blt:∃ mb,base.Ns builtinsNs mb /\ ∀ x:Str,x ≠ "__name__" -> mb x = bootBuiltins x
  nolimit:base.NoLimit
set_option genInjectivity false in
set_option genSizeOfSpec false in
structure Cx where
  prog:Program
  w:World
  K:PySem.W.Frag
  mg:Str -> Option Value
  base:Heap
  A:Around
  N:List Str
  s₀:Shared
  H₀:Hp
  env:Env
  outer:List Env
  stack:List Env
  ex:List Addr
  fn:Str -> Bool
  calm:Bool
  pn:List (Addr×Obj)
  xe:Value -> Shared -> Prop
noncomputable def frs (l:List Env):List Addr:=l.filterMap (·.frame)
noncomputable abbrev Cx.fs (X:Cx):List Addr:=frs X.outer
noncomputable def Vis (sc:Scope) (x:Str):Prop:=sc.names.lookup x = some .local ∨ sc.names.lookup x = some .cell ∨ sc.names.lookup x = some .free
noncomputable def Loc (sc:Scope) (x:Str):Prop:=sc.names.lookup x = some .local ∨ sc.names.lookup x = some .cell
noncomputable def Look (env:Env) (h:Heap) (m:Str -> Option Value) (x:Str) (u:Value):Prop :=
  (env.kindOf x = some .local /\ m x = some u) ∨ ((env.kindOf x = some .cell ∨ env.kindOf x = some .free) /\ ∃ c,env.cells.lookup x = some c /\ h.IsCell c (some u))
structure Cx.Ok (X:Cx):Prop where
  mod:Mod X.K X.mg X.base
  kind:X.env.scope.kind = .function
  glob:X.env.globals = mainGlobals
  blt:X.env.builtins = builtinsNs
  above:X.s₀.heap.objs.size <= X.env.locals
  inj:∀ x y c,X.env.cells.lookup x = some c -> X.env.cells.lookup y = some c -> x = y
  has:∀ x,(X.env.kindOf x = some .cell ∨ X.env.kindOf x = some .free) -> ∃ c,X.env.cells.lookup x = some c
  cab:∀ x c,X.fn x = true -> X.env.cells.lookup x = some c -> X.s₀.heap.objs.size <= c
  hd:X.calm = true -> X.A.handled = none
  frames:X.A.frames = some X.stack
  stk:X.stack = X.outer ∨ (X.stack = X.env :: X.outer /\ X.env.frame = some X.env.locals)
  exf:∀ b ∈ X.ex,b ≠ X.env.locals /\ ∀ x c,X.env.cells.lookup x = some c -> c ≠ b
  bs:∀ b o,X.base.get? b = some o -> X.s₀.heap.get? b = some o /\ X.H₀ b = none
  bsz:X.base.objs.size <= X.s₀.heap.objs.size
  noex:∀ b o,X.base.get? b = some o -> b ∉ X.ex
  exfs:∀ b ∈ X.ex,b ∉ X.fs
  funs:X.s₀.heap.FunFrames X.base X.outer
  frf:∀ b ∈ X.fs,X.H₀ b = none
structure Inv (X:Cx) (pins:List (Addr×Obj)) (σ:List (Option V)) (H:Hp) (s:Shared):Prop where
  ok:X.Ok
  os:s.os = X.s₀.os
  bare:AllBare s.gens
  base:Un X.fs X.ex X.H₀ H X.s₀.heap s.heap
  loc:∃ m,s.heap.Ns X.env.locals m /\ ∀ (i:Nat) (x:Str) (v:V),X.N[i]? = some x -> σ[i]? = some (some v) -> Vis X.env.scope x -> ∃ u,RelV v u /\ Look X.env s.heap m x u
  cell:∀ x c,X.env.cells.lookup x = some c -> ∃ v,s.heap.IsCell c v
  free:H X.env.locals = none
  freeC:∀ x c,X.env.cells.lookup x = some c -> H c = none
  pin:∀ p ∈ X.pn ++ pins,s.heap.get? p.1 = some p.2 /\ H p.1 = none /\ p.1 ≠ X.env.locals /\ p.1 ∉ X.fs /\ ∀ v,p.2.data ≠ .cell v
  hok:HOk X.prog X.w H s.heap
  len:σ.length = X.N.length
section
variable {X:Cx} {pins:List (Addr×Obj)} {σ:List (Option V)} {H H':Hp} {s:Shared} {h':Heap}
theorem Cx.Ok.nofr (ok:X.Ok) {b:Addr} {o:Obj} (e:X.base.get? b = some o):b ∉ X.fs:=fun hb => by
  have:=(ok.funs.mem hb).1
  rw [e] at this; cases this
theorem Inv.bs (I:Inv X pins σ H s):∀ b o,X.base.get? b = some o -> s.heap.get? b = some o /\ H b = none:=fun b o e =>
  ⟨I.base.keep b o (I.ok.bs b o e).1 (I.ok.bs b o e).2 (I.ok.nofr e) (I.ok.noex b o e),I.base.free b o (I.ok.bs b o e).1 (I.ok.bs b o e).2 (I.ok.noex b o e)⟩
theorem Inv.bk (I:Inv X pins σ H s):∀ b o,X.base.get? b = some o -> s.heap.get? b = some o:=fun b o e => (I.bs b o e).1
theorem Inv.mod (I:Inv X pins σ H s):Mod X.K X.mg X.base:=I.ok.mod
theorem Inv.kIn (I:Inv X pins σ H s):X.K.In s.heap:=I.ok.mod.kin.keeps I.bk
theorem Inv.nolimit (I:Inv X pins σ H s):s.heap.NoLimit:=I.ok.mod.nolimit.keeps I.bk
theorem Inv.fr (I:Inv X pins σ H s):∃ m,Fr X.base X.env.locals s.heap m :=
  let ⟨m,hn,_⟩:=I.loc
  ⟨m,hn,I.bk,Nat.le_trans I.ok.bsz I.ok.above⟩
theorem Inv.lt (I:Inv X pins σ H s):X.env.locals < s.heap.objs.size:=let ⟨_,hn,_⟩:=I.loc; hn.lt
theorem Inv.sz (I:Inv X pins σ H s):X.s₀.heap.objs.size <= s.heap.objs.size:=Nat.le_trans I.ok.above (Nat.le_of_lt I.lt)
theorem Inv.nofs (I:Inv X pins σ H s) {a:Addr} (h:s.heap.objs.size <= a):a ∉ X.fs:=fun hb => by
  obtain ⟨_,o,ho,_⟩:=I.ok.funs.mem hb
  exact absurd (Nat.lt_of_lt_of_le (Heap.lt_size ho) (Nat.le_trans I.sz h)) (Nat.lt_irrefl _)
theorem Inv.cne (I:Inv X pins σ H s):∀ x c,X.env.cells.lookup x = some c -> c ≠ X.env.locals:=fun x c e z => by
  obtain ⟨v,o,ho,hd⟩:=I.cell x c e
  obtain ⟨m,⟨o',es,ep,ho',hd',_⟩,_⟩:=I.loc
  rw [z,ho'] at ho; cases ho; rw [hd'] at hd; cases hd
theorem Inv.funs (I:Inv X pins σ H s):s.heap.FunFrames X.base X.outer:=by
  have all:∀ (l:List Env),(∀ b ∈ frs l,b ∈ X.fs) -> X.s₀.heap.FunFrames X.base l -> s.heap.FunFrames X.base l:=by
    intro l
    induction l with
    | nil => intro _ _; trivial
    | cons env r ih =>
      intro hs hl
      obtain ⟨hk,⟨L,o,hf,hn,ho,hd⟩,hr⟩:=hl
      have hL:L ∈ X.fs:=hs L (by unfold frs; rw [List.filterMap_cons,hf]; exact List.mem_cons_self)
      obtain ⟨sl,e⟩:=I.base.slot L o ho (I.ok.frf L hL) hL fun z => I.ok.exfs L z hL
      exact ⟨hk,⟨L,_,hf,hn,e,hd⟩,ih (fun b hb => hs b (by unfold frs; rw [List.filterMap_cons,hf]; exact List.mem_cons_of_mem _ hb)) hr⟩
  exact all X.outer (fun _ hb => hb) I.ok.funs
theorem Inv.stack (I:Inv X pins σ H s):s.heap.FunFrames X.base X.stack:=by
  rcases I.ok.stk with e | ⟨e,hf⟩
  . rw [e]; exact I.funs
  . rw [e]
    obtain ⟨m,hn,_⟩:=I.loc
    refine .cons (by rw [I.ok.kind]; decide) hf hn ?_ I.funs
    exact Heap.get?_none_of_le (Nat.le_trans I.ok.bsz I.ok.above)
theorem Inv.stkSub (I:Inv X pins σ H s):∀ b ∈ frs X.stack,b ∈ X.env.locals :: X.fs:=fun b hb => by
  rcases I.ok.stk with e | ⟨e,hf⟩
  . rw [e] at hb; exact List.mem_cons_of_mem _ hb
  . rw [e] at hb
    unfold frs at hb
    rw [List.filterMap_cons,hf] at hb
    exact hb
theorem Inv.stkFree (I:Inv X pins σ H s):∀ b ∈ frs X.stack,H b = none:=fun b hb => by
  rcases List.mem_cons.mp (I.stkSub b hb) with e | hb
  . rw [e]; exact I.free
  . obtain ⟨_,o,ho,_⟩:=I.ok.funs.mem hb
    exact I.base.free b o ho (I.ok.frf b hb) fun z => I.ok.exfs b z hb
theorem Inv.step {g':Array GenState} {t':Nat} {d':Drawn} {ch:List Addr} (I:Inv X pins σ H s)
    (hch:∀ b ∈ ch,(b ∈ X.ex ∨ X.s₀.heap.objs.size <= b) /\ b ≠ X.env.locals /\ (∀ x c,X.env.cells.lookup x = some c -> c ≠ b) /\ ∀ p ∈ X.pn ++ pins,p.1 ≠ b)
    (keep:∀ b o,b ≠ X.env.locals -> b ∉ X.fs -> b ∉ ch -> s.heap.get? b = some o -> H b = none -> h'.get? b = some o)
    (slot:∀ b o,b ≠ X.env.locals -> b ∈ X.fs -> b ∉ ch -> s.heap.get? b = some o -> H b = none -> ∃ sl,h'.get? b = some { o with slots:=sl }) (free:∀ b o,b ∉ ch -> s.heap.get? b = some o -> H b = none -> H' b = none)
    (there:∀ b o,b ∉ ch -> s.heap.get? b = some o -> ∃ o',h'.get? b = some o')
    (tups:∀ b xs,H b = some (.tup xs) -> H' b = some (.tup xs)) (frzs:∀ b o u,H b = some (.frz o u) -> H' b = some (.frz o u)) (tbls:∀ b ps,H b = some (.tbl ps) -> ∃ more,H' b = some (.tbl (ps ++ more)))
    (ns:∀ m,s.heap.Ns X.env.locals m -> h'.Ns X.env.locals m) (hok:HOk X.prog X.w H' h') (hg:AllBare g') :
    Inv X pins σ H' { s with heap:=h',gens:=g',drawn:=d',toks:=t' }:=by
  have neL:∀ b o,X.s₀.heap.get? b = some o -> b ≠ X.env.locals:=fun b o e => Nat.ne_of_lt (Nat.lt_of_lt_of_le (Heap.lt_size e) I.ok.above)
  have neC:∀ b o,X.s₀.heap.get? b = some o -> b ∉ X.ex -> b ∉ ch:=fun b o e hx hb => by
    rcases (hch b hb).1 with z | z
    . exact hx z
    . exact absurd (Nat.lt_of_lt_of_le (Heap.lt_size e) z) (Nat.lt_irrefl _)
  have cellK:∀ x c,X.env.cells.lookup x = some c -> ∀ v,s.heap.IsCell c v -> h'.IsCell c v:=fun x c e v ⟨o,ho,hd⟩ => by
    have nch:c ∉ ch:=fun z => (hch c z).2.2.1 x c e rfl
    by_cases hc:c ∈ X.fs
    . obtain ⟨sl,q⟩:=slot c o (I.cne x c e) hc nch ho (I.freeC x c e)
      exact ⟨_,q,hd⟩
    . exact ⟨o,keep c o (I.cne x c e) hc nch ho (I.freeC x c e),hd⟩
  refine ⟨I.ok,I.os,hg,⟨fun b o e n hb hx => ?_,fun b o e n hb hx => ?_,fun b o e n hx => ?_,fun b o e hx => ?_,fun b xs e => tups b xs (I.base.tups b xs e),fun b o xs e => frzs b o xs (I.base.frzs b o xs e),fun b ps e => ?_⟩,?_,fun x c e => ?_,?_,fun x c e => ?_,fun p hp => ?_,hok,I.len⟩
  . exact keep b o (neL b o e) hb (neC b o e hx) (I.base.keep b o e n hb hx) (I.base.free b o e n hx)
  . obtain ⟨sl,e1⟩:=I.base.slot b o e n hb hx
    obtain ⟨sl',e2⟩:=slot b _ (neL b o e) hb (neC b o e hx) e1 (I.base.free b o e n hx)
    exact ⟨sl',e2⟩
  . obtain ⟨o',e1⟩:=I.base.there b o e hx
    exact free b o' (neC b o e hx) e1 (I.base.free b o e n hx)
  . obtain ⟨o',e1⟩:=I.base.there b o e hx
    exact there b o' (neC b o e hx) e1
  . obtain ⟨m1,e1⟩:=I.base.tbls b ps e
    obtain ⟨m2,e2⟩:=tbls b _ e1
    exact ⟨m1 ++ m2,by rw [e2,Array.append_assoc]⟩
  . obtain ⟨m,hn,hl⟩:=I.loc
    refine ⟨m,ns m hn,fun i x v e1 e2 e3 => ?_⟩
    obtain ⟨u,r,l⟩:=hl i x v e1 e2 e3
    refine ⟨u,r,?_⟩
    rcases l with l | ⟨k,c,e,z⟩
    . exact .inl l
    . exact .inr ⟨k,c,e,cellK x c e _ z⟩
  . obtain ⟨v,z⟩:=I.cell x c e
    exact ⟨v,cellK x c e v z⟩
  . obtain ⟨m,⟨o,_,_,ho,_⟩,_⟩:=I.loc
    exact free _ o (fun z => (hch _ z).2.1 rfl) ho I.free
  . obtain ⟨v,o,ho,hd⟩:=I.cell x c e
    exact free c o (fun z => (hch c z).2.2.1 x c e rfl) ho (I.freeC x c e)
  . obtain ⟨e,n,ne,nf,d⟩:=I.pin p hp
    have nch:p.1 ∉ ch:=fun z => (hch p.1 z).2.2.2 p hp rfl
    exact ⟨keep p.1 p.2 ne nf nch e n,free p.1 p.2 nch e n,ne,nf,d⟩
theorem Inv.un {t':Nat} (I:Inv X pins σ H s) (u:Un X.fs [] H H' s.heap h') (hok:HOk X.prog X.w H' h'):Inv X pins σ H' { s with heap:=h',toks:=t' }:=by
  obtain ⟨m,⟨o,es,ep,ho,r⟩,_⟩:=id I.loc
  obtain ⟨sl,hL⟩:=u.any ho I.free (by simp)
  exact I.step (g':=s.gens) (d':=s.drawn) (ch:=[]) (fun _ z => nomatch z) (fun b o _ hb _ e n => u.keep b o e n hb (by simp)) (fun b o _ hb _ e n => u.slot b o e n hb (by simp)) (fun b o _ e n => u.free b o e n (by simp)) (fun b o _ e => u.there b o e (by simp)) u.tups u.frzs u.tbls (fun m' hm => by
    obtain ⟨o',es',ep',ho',r'⟩:=hm
    rw [ho] at ho'; cases ho'
    exact ⟨_,es',ep',hL,r'⟩) hok I.bare
theorem Inv.call {g':Array GenState} {t':Nat} {d':Drawn} {ch:List Addr} (I:Inv X pins σ H s) (u:Un (frs X.stack) ch H H' s.heap h') (hok:HOk X.prog X.w H' h') (hg:AllBare g')
    (hch:∀ b ∈ ch,(b ∈ X.ex ∨ X.s₀.heap.objs.size <= b) /\ b ≠ X.env.locals /\ (∀ x c,X.env.cells.lookup x = some c -> c ≠ b) /\ ∀ p ∈ X.pn ++ pins,p.1 ≠ b) :
    Inv X pins σ H' { s with heap:=h',gens:=g',drawn:=d',toks:=t' }:=by
  obtain ⟨m,⟨o,es,ep,ho,r⟩,_⟩:=id I.loc
  obtain ⟨sl,hL⟩:=u.any ho I.free fun z => (hch _ z).2.1 rfl
  exact I.step (ch:=ch) hch (fun b o hL hb hc e n => u.keep b o e n (fun z => (List.mem_cons.mp (I.stkSub b z)).elim hL hb) hc) (fun b o _ _ hc e n => u.any e n hc) (fun b o hc e n => u.free b o e n hc) (fun b o hc e => u.there b o e hc) u.tups u.frzs u.tbls (fun m' hm => by
    obtain ⟨o',es',ep',ho',r'⟩:=hm
    rw [ho] at ho'; cases ho'
    exact ⟨_,es',ep',hL,r'⟩) hok hg
theorem Inv.turned {t':Nat} {it:Addr} (I:Inv X pins σ H s) (k:∀ b o,b ≠ it -> s.heap.get? b = some o -> h'.get? b = some o) (hn:H it = none) (hL:it ≠ X.env.locals)
    (h1:it ∈ X.ex ∨ X.s₀.heap.objs.size <= it) (h2:∀ x c,X.env.cells.lookup x = some c -> c ≠ it) (h3:∀ p ∈ X.pn ++ pins,p.1 ≠ it):Inv X pins σ H { s with heap:=h',toks:=t' }:=by
  have nit:∀ b u,H b = some u -> b ≠ it:=fun b u e z => by rw [z,hn] at e; cases e
  refine I.step (g':=s.gens) (d':=s.drawn) (ch:=[it]) (fun b hb => ?_) (fun b o _ _ hc e _ => k b o (fun z => hc (by simp [z])) e) (fun b o _ _ hc e _ => ⟨o.slots,k b o (fun z => hc (by simp [z])) e⟩) (fun _ _ _ _ n => n)
    (fun b o hc e => ⟨o,k b o (fun z => hc (by simp [z])) e⟩) (fun _ _ e => e) (fun _ _ _ e => e) (fun b ps e => ⟨#[],by rw [e]; simp⟩) (fun m hm => ?_) (fun b u e => ?_) I.bare
  . have e:b = it:=by simpa using hb
    subst e
    exact ⟨h1,hL,h2,h3⟩
  . obtain ⟨o,es,ep,ho,r⟩:=hm
    exact ⟨o,es,ep,k _ o (Ne.symm hL) ho,r⟩
  . refine (I.hok b u e).stay (fun c v hc q => k c v ?_ q) (fun _ q => q) fun _ _ q => q
    rcases hc with z | z
    . rw [z]; exact nit b u e
    . exact nit c _ z
theorem Inv.tok (I:Inv X pins σ H s) (t:Nat):Inv X pins σ H { s with toks:=t }:=I.un (h':=s.heap) (t':=t) Un.refl I.hok
theorem Inv.kept {t':Nat} (I:Inv X pins σ H s) (k:∀ b u,s.heap.get? b = some u -> h'.get? b = some u):Inv X pins σ H { s with heap:=h',toks:=t' }:=I.un (Un.kept k) (I.hok.kept k)
theorem Inv.laid {a:Addr} {o:HO} {t':Nat} (I:Inv X pins σ H s) (k:∀ b u,s.heap.get? b = some u -> h'.get? b = some u) (hp:s.heap.objs.size <= a) (new:ObjOk X.prog X.w (upd H a o) h' a o) :
    Inv X pins σ (upd H a o) { s with heap:=h',toks:=t' }:=I.un (Un.laid k hp (I.hok.fresh hp)) (I.hok.laid k hp new)
theorem Inv.write {x e:Addr} {o:HO} {t':Nat} (I:Inv X pins σ H s) (mu:Mut (H x)) (he:e = x ∨ H e = some (.own x)) (k:∀ b u,b ≠ e -> s.heap.get? b = some u -> h'.get? b = some u) (heo:∃ u,h'.get? e = some u)
    (new:ObjOk X.prog X.w (upd H x o) h' x o):Inv X pins σ (upd H x o) { s with heap:=h',toks:=t' }:=I.un (Un.write mu he k heo) (I.hok.write mu he k heo new)
theorem Inv.pins_of {pins':List (Addr×Obj)} (I:Inv X pins σ H s) (h:∀ p ∈ pins',s.heap.get? p.1 = some p.2 /\ H p.1 = none /\ p.1 ≠ X.env.locals /\ p.1 ∉ X.fs /\ ∀ v,p.2.data ≠ .cell v):Inv X pins' σ H s :=
  ⟨I.ok,I.os,I.bare,I.base,I.loc,I.cell,I.free,I.freeC,fun p hp => (List.mem_append.mp hp).elim (fun z => I.pin p (List.mem_append_left _ z)) (h p),I.hok,I.len⟩
theorem nodup_ix {N:List Str} (hN:N.Nodup) {i j:Nat} {x:Str} (a:N[i]? = some x) (b:N[j]? = some x):i = j:=by
  obtain ⟨h1,e1⟩:=List.getElem?_eq_some_iff.mp a
  obtain ⟨h2,e2⟩:=List.getElem?_eq_some_iff.mp b
  exact (List.getElem_inj hN).mp (e1.trans e2.symm)
theorem store_ok2 {M:Model} {A:Around} {E:Value -> Shared -> Prop} {i:Nat} {x:Str} {v:V} {u:Value} {Q:Unit -> Shared -> Prop} (I:Inv X pins σ H s) (hN:X.N.Nodup) (hi:X.N[i]? = some x) (hx:Loc X.env.scope x) (r:RelV v u)
    (h:∀ s',Inv X pins (σ.set i (some v)) H s' -> (∃ a,Heap.SameBut a s.heap s'.heap /\ (a = X.env.locals ∨ X.env.cells.lookup x = some a)) -> Q () s') (hf:X.fn x = true ∨ X.env.scope.names.lookup x = some .local:=by first | exact .inl rfl | exact .inr rfl | assumption):wpAny M A (storeName X.env x u) Q E s:=by
  obtain ⟨m,hn,hl⟩:=id I.loc
  have hcls:(X.env.scope.kind == .class || (X.env.scope.kind == .module && X.env.locals != X.env.globals)) = false:=by rw [I.ok.kind]; rfl
  have hiσ:i < σ.length:=by rw [I.len]; exact (List.getElem?_eq_some_iff.mp hi).1
  have cne:=I.cne
  have tracked:∀ {a:Addr} {h':Heap},(∃ o,s.heap.get? a = some o /\ H a = none) -> Heap.SameBut a s.heap h' -> HOk X.prog X.w H h':=fun {a h'} ha hs b ob e => by
    obtain ⟨_,_,hfree⟩:=ha
    refine (I.hok b ob e).stay (fun c w' hc q => (hs.2 c ?_).trans q) (fun _ q => q) fun _ _ q => q
    rintro rfl
    rcases hc with rfl | hc
    . rw [hfree] at e; cases e
    . rw [hfree] at hc; cases hc
  rcases hx with hk | hk
  . refine wpAny_storeName_local hk hn (fun h' hn' hs => ?_) hcls
    obtain ⟨oL,_,_,hoL,_⟩:=id hn
    refine h _ ⟨I.ok,I.os,I.bare,⟨fun b o e n hb hx => ?_,fun b o e n hb hx => ?_,I.base.free,fun b o e hx => ?_,I.base.tups,I.base.frzs,I.base.tbls⟩,⟨_,hn',fun j y v' e1 e2 e3 => ?_⟩,fun y c e => ?_,I.free,I.freeC,fun p hp => ?_,tracked ⟨oL,hoL,I.free⟩ hs,by simpa using I.len⟩ ⟨_,hs,.inl rfl⟩
    . exact (hs.2 b (Nat.ne_of_lt (Nat.lt_of_lt_of_le (Heap.lt_size e) I.ok.above))).trans (I.base.keep b o e n hb hx)
    . obtain ⟨sl,e1⟩:=I.base.slot b o e n hb hx
      exact ⟨sl,(hs.2 b (Nat.ne_of_lt (Nat.lt_of_lt_of_le (Heap.lt_size e) I.ok.above))).trans e1⟩
    . obtain ⟨o',e1⟩:=I.base.there b o e hx
      exact ⟨o',(hs.2 b (Nat.ne_of_lt (Nat.lt_of_lt_of_le (Heap.lt_size e) I.ok.above))).trans e1⟩
    . by_cases hj:j = i
      . subst hj
        rw [hi] at e1; cases e1
        rw [List.getElem?_set_self hiσ] at e2
        cases e2
        exact ⟨u,r,.inl ⟨hk,by simp⟩⟩
      . rw [List.getElem?_set_ne (Ne.symm hj)] at e2
        obtain ⟨u',r',q⟩:=hl j y v' e1 e2 e3
        refine ⟨u',r',?_⟩
        rcases q with ⟨k,e⟩ | ⟨k,c,e,z⟩
        . refine .inl ⟨k,?_⟩
          have:y ≠ x:=fun e => hj (nodup_ix hN e1 (e ▸ hi))
          simp [this,e]
        . exact .inr ⟨k,c,e,z.sameBut hs (cne y c e)⟩
    . obtain ⟨w',z⟩:=I.cell y c e
      exact ⟨w',z.sameBut hs (cne y c e)⟩
    . obtain ⟨e,n,ne,nf,d⟩:=I.pin p hp
      exact ⟨(hs.2 p.1 ne).trans e,n,ne,nf,d⟩
  . have hfn:X.fn x = true:=by
      rcases hf with z | z
      . exact z
      . rw [z] at hk; cases hk
    obtain ⟨c,hc⟩:=I.ok.has x (.inl hk)
    obtain ⟨w',z⟩:=I.cell x c hc
    refine wpAny_storeName_cell I.ok.kind hk hc z (fun h' hc' hs => ?_)
    obtain ⟨oc,hoc,hocd⟩:=id z
    refine h { s with heap:=h' } ⟨I.ok,I.os,I.bare,⟨fun b o e n hb hx => ?_,fun b o e n hb hx => ?_,I.base.free,fun b o e hx => ?_,I.base.tups,I.base.frzs,I.base.tbls⟩,⟨m,hn.sameBut hs (Ne.symm (cne x c hc)),fun j y v' e1 e2 e3 => ?_⟩,fun y c' e => ?_,I.free,I.freeC,fun p hp => ?_,tracked ⟨oc,hoc,I.freeC x c hc⟩ hs,by simpa using I.len⟩ ⟨c,hs,.inr hc⟩
    . exact (hs.2 b (Nat.ne_of_lt (Nat.lt_of_lt_of_le (Heap.lt_size e) (I.ok.cab x c hfn hc)))).trans (I.base.keep b o e n hb hx)
    . obtain ⟨sl,e1⟩:=I.base.slot b o e n hb hx
      exact ⟨sl,(hs.2 b (Nat.ne_of_lt (Nat.lt_of_lt_of_le (Heap.lt_size e) (I.ok.cab x c hfn hc)))).trans e1⟩
    . obtain ⟨o',e1⟩:=I.base.there b o e hx
      exact ⟨o',(hs.2 b (Nat.ne_of_lt (Nat.lt_of_lt_of_le (Heap.lt_size e) (I.ok.cab x c hfn hc)))).trans e1⟩
    . by_cases hj:j = i
      . subst hj
        rw [hi] at e1; cases e1
        rw [List.getElem?_set_self hiσ] at e2
        cases e2
        exact ⟨u,r,.inr ⟨.inl hk,c,hc,hc'⟩⟩
      . rw [List.getElem?_set_ne (Ne.symm hj)] at e2
        obtain ⟨u',r',q⟩:=hl j y v' e1 e2 e3
        refine ⟨u',r',?_⟩
        rcases q with q | ⟨k,c',e,z'⟩
        . exact .inl q
        . refine .inr ⟨k,c',e,z'.sameBut hs ?_⟩
          rintro rfl
          exact hj (nodup_ix hN e1 (I.ok.inj _ _ _ e hc ▸ hi))
    . by_cases hcc:c' = c
      . subst hcc; exact ⟨_,hc'⟩
      . obtain ⟨w2,z2⟩:=I.cell y c' e
        exact ⟨w2,z2.sameBut hs hcc⟩
    . obtain ⟨e,n,ne,nf,d⟩:=I.pin p hp
      refine ⟨(hs.2 p.1 ?_).trans e,n,ne,nf,d⟩
      intro q
      rw [q,hoc] at e
      have q':oc = p.2:=Option.some.inj e
      exact d w' (by rw [← q']; exact hocd)
theorem store_ok {M:Model} {A:Around} {E:Value -> Shared -> Prop} {i:Nat} {x:Str} {v:V} {u:Value} {Q:Unit -> Shared -> Prop} (I:Inv X pins σ H s) (hN:X.N.Nodup) (hi:X.N[i]? = some x) (hx:Loc X.env.scope x) (r:RelV v u)
    (h:∀ s',Inv X pins (σ.set i (some v)) H s' -> Q () s') (hf:X.fn x = true ∨ X.env.scope.names.lookup x = some .local:=by first | exact .inl rfl | exact .inr rfl | assumption):wpAny M A (storeName X.env x u) Q E s :=
  store_ok2 I hN hi hx r (fun s' I' _ => h s' I') hf
theorem Inv.call' {s':Shared} {ch:List Addr} (I:Inv X pins σ H s) (ho:s'.os = s.os) (u:Un (frs X.stack) ch H H' s.heap s'.heap) (hok:HOk X.prog X.w H' s'.heap) (hg:AllBare s'.gens)
    (hch:∀ b ∈ ch,(b ∈ X.ex ∨ X.s₀.heap.objs.size <= b) /\ b ≠ X.env.locals /\ (∀ x c,X.env.cells.lookup x = some c -> c ≠ b) /\ ∀ p ∈ X.pn ++ pins,p.1 ≠ b):Inv X pins σ H' s':=by
  obtain ⟨h',g',d',t',o'⟩:=s'
  have e:o' = s.os:=ho
  subst e
  exact I.call (g':=g') (t':=t') (d':=d') u hok hg hch
end
noncomputable abbrev XK:=Value -> Option Addr -> Hp -> Prop
noncomputable abbrev St:=List (Option V)
noncomputable abbrev VK:=V -> Hp -> Prop
noncomputable abbrev TE:=St -> Hp -> VK -> Prop
noncomputable abbrev TT:=St -> Hp -> (Bool -> Hp -> Prop) -> Prop
noncomputable abbrev TA:=St -> Hp -> (List V -> Hp -> Prop) -> Prop
structure Ends where
  nx:St -> Hp -> Prop
  rt:VK
  bk:St -> Hp -> Prop:=fun _ _ => False
  ct:St -> Hp -> Prop:=fun _ _ => False
noncomputable abbrev TS:=Ends -> St -> Hp -> Prop
noncomputable def EP (X:Cx) (pins:List (Addr×Obj)) (σ:St) (Q:VK) (u:Value) (s':Shared):Prop:=∃ v H',Inv X pins σ H' s' /\ RelV v u /\ Q v H'
noncomputable def TP (X:Cx) (pins:List (Addr×Obj)) (σ:St) (Q:Bool -> Hp -> Prop) (b:Bool) (s':Shared):Prop:=∃ H',Inv X pins σ H' s' /\ Q b H'
noncomputable def AP (X:Cx) (pins:List (Addr×Obj)) (σ:St) (Q:List V -> Hp -> Prop) (us:List Value) (s':Shared):Prop:=∃ vs H',Inv X pins σ H' s' /\ Vals vs us /\ Q vs H'
noncomputable def SP (X:Cx) (pins:List (Addr×Obj)) (D:Ends) (f:Flow) (s':Shared):Prop :=
  match f with
  | .next => ∃ σ' H',Inv X pins σ' H' s' /\ D.nx σ' H'
  | .brk => ∃ σ' H',Inv X pins σ' H' s' /\ D.bk σ' H'
  | .cont => ∃ σ' H',Inv X pins σ' H' s' /\ D.ct σ' H'
  | .ret u => ∃ v σ' H',Inv X pins σ' H' s' /\ RelV v u /\ D.rt v H'
noncomputable def PE (X:Cx) (e:Expr) (t:TE):Prop :=
  ∀ (pins:List (Addr×Obj)) (s:Shared) (σ:St) (H:Hp) (Q:VK),Inv X pins σ H s -> t σ H Q -> wpAny (model X.prog X.w) X.A (eval e X.env) (EP X pins σ Q) X.xe s
noncomputable def PT (X:Cx) (e:Expr) (t:TT):Prop :=
  ∀ (pins:List (Addr×Obj)) (s:Shared) (σ:St) (H:Hp) (Q:Bool -> Hp -> Prop),Inv X pins σ H s -> t σ H Q -> wpAny (model X.prog X.w) X.A (isTrue e X.env (eval e X.env)) (TP X pins σ Q) X.xe s
noncomputable def PW (X:Cx) (e:Expr) (t:TT):Prop :=
  ∀ (whole:Sem Value) (pins:List (Addr×Obj)) (s:Shared) (σ:St) (H:Hp) (Q:Bool -> Hp -> Prop),Inv X pins σ H s -> t σ H Q -> wpAny (model X.prog X.w) X.A (isTrue e X.env whole) (TP X pins σ Q) X.xe s
theorem PW.pt {X:Cx} {e:Expr} {t:TT} (h:PW X e t):PT X e t:=h _
noncomputable def PA (X:Cx) (es:List Expr) (t:TA):Prop :=
  ∀ (pos:Pos) (pins:List (Addr×Obj)) (s:Shared) (σ:St) (H:Hp) (Q:List V -> Hp -> Prop),Inv X pins σ H s -> t σ H Q -> wpAny (model X.prog X.w) X.A (spliced (backTo pos (starEach es X.env))) (AP X pins σ Q) X.xe s
noncomputable def PS (X:Cx) (st:Stmt) (t:TS):Prop :=
  ∀ (pins:List (Addr×Obj)) (s:Shared) (σ:St) (H:Hp) (D:Ends),Inv X pins σ H s -> t D σ H -> wpAny (model X.prog X.w) X.A (exec st X.env) (SP X pins D) X.xe s
noncomputable def PSs (X:Cx) (st:List Stmt) (t:TS):Prop :=
  ∀ (pins:List (Addr×Obj)) (s:Shared) (σ:St) (H:Hp) (D:Ends),Inv X pins σ H s -> t D σ H -> wpAny (model X.prog X.w) X.A (execs st X.env) (SP X pins D) X.xe s
theorem thn {α:Type} {t:Sem α} {Q Q':α -> Shared -> Prop} {M:Model} {A:Around} {E:Value -> Shared -> Prop} {s:Shared} (h:wpAny M A t Q E s) (hQ:∀ a s,Q a s -> Q' a s):wpAny M A t Q' E s:=wpAny_mono h hQ fun _ _ x => x
end L2
namespace L2
open PySem PySem.Spec PyProof.Rows
section
variable {X:Cx}
noncomputable def tVar (i:Nat):TE:=fun σ H Q => ∃ v,σ[i]? = some (some v) /\ Q v H
noncomputable def tC (v:V):TE:=fun _ H Q => Q v H
theorem pe_var {i:Nat} {x:Str} {pos:Pos} (hN:X.N[i]? = some x) (hv:Vis X.env.scope x) (hd:(x == ("__debug__":Str)) = false:=by decide) (hcd:(x == ("__classdict__":Str)) = false:=by decide):PE X (.Name x pos) (tVar i):=by
  intro pins s σ H Q I h
  obtain ⟨v,e,h⟩:=h
  obtain ⟨m,hn,hl⟩:=I.loc
  obtain ⟨u,r,l⟩:=hl i x v hN e hv
  have fin:EP X pins σ Q u s:=⟨v,H,I,r,h⟩
  rcases l with ⟨hk,hm⟩ | ⟨hk,c,hc,hcell⟩
  . exact wpAny_Name (wpAny_loadName_local I.ok.kind hk hn hm fin) hd
  . rcases hk with hk | hk
    . exact wpAny_Name (wpAny_loadName_cell I.ok.kind hk hc hcell fin) hd
    . exact wpAny_Name (wpAny_loadName_free I.ok.kind hk hc hcell fin hcd) hd
theorem pe_int {i j pos}:PE X (.Constant (.int i) j pos) (tC (.int i)):=fun _ _ _ H _ I h => wpAny_Constant_int ⟨.int i,H,I.tok _,⟨_,rfl⟩,h⟩
theorem pe_bl {b j pos}:PE X (.Constant (.bool b) j pos) (tC (.bl b)):=fun _ _ _ H _ I h => Constant_bool ⟨.bl b,H,I,rfl,h⟩
theorem pe_non {j pos}:PE X (.Constant .none j pos) (tC .non):=fun _ _ _ H _ I h => Constant_none ⟨.non,H,I,rfl,h⟩
theorem pe_str {x j pos}:PE X (.Constant (.str x) j pos) (tC (.str x)):=fun _ _ _ H _ I h => Calls.Constant_str ⟨.str x,H,I.tok _,⟨_,rfl⟩,h⟩
noncomputable def Gl (X:Cx) (x:Str):Prop:=X.env.kindOf x = some .globalImplicit
theorem ld_glob {E:Value -> Shared -> Prop} {pins:List (Addr×Obj)} {s:Shared} {σ:St} {H:Hp} {x:Str} {u:Value} {pos:Pos} {Q:Value -> Shared -> Prop} (I:Inv X pins σ H s) (hg:Gl X x) (hm:X.mg x = some u) (h:Q u s)
    (hd:(x == ("__debug__":Str)) = false:=by decide):wpAny (model X.prog X.w) X.A (eval (.Name x pos) X.env) Q E s :=
  Calls.Name_function_global I.ok.kind hg (Calls.loadGlobal_global (by rw [I.ok.glob]; exact I.mod.glob.keeps I.bk) hm h) hd
theorem ld_blt {E:Value -> Shared -> Prop} {pins:List (Addr×Obj)} {s:Shared} {σ:St} {H:Hp} {x:Str} {u:Value} {pos:Pos} {Q:Value -> Shared -> Prop} (I:Inv X pins σ H s) (hg:Gl X x) (hm:X.mg x = none) (hv:bootBuiltins x = some u) (h:Q u s)
    (hn:x ≠ "__name__":=by decide) (hd:(x == ("__debug__":Str)) = false:=by decide):wpAny (model X.prog X.w) X.A (eval (.Name x pos) X.env) Q E s:=by
  obtain ⟨mb,h1,h2⟩:=I.mod.blt
  exact Calls.Name_function_global I.ok.kind hg (Calls.loadGlobal_builtin (by rw [I.ok.glob]; exact I.mod.glob.keeps I.bk) hm (by rw [I.ok.blt]; exact h1.keeps I.bk) ((h2 x hn).trans hv) h) hd
theorem pe_glob {x:Str} {v:V} {u:Value} {pos:Pos} (hg:Gl X x) (hm:X.mg x = some u) (r:RelV v u) (hd:(x == ("__debug__":Str)) = false:=by decide):PE X (.Name x pos) (tC v) :=
  fun _ _ _ H _ I h => ld_glob I hg hm ⟨v,H,I,r,h⟩ hd
theorem pe_bltn {x:Str} {v:V} {u:Value} {pos:Pos} (hg:Gl X x) (hm:X.mg x = none) (hv:bootBuiltins x = some u) (r:RelV v u) (hn:x ≠ "__name__":=by decide) (hd:(x == ("__debug__":Str)) = false:=by decide):PE X (.Name x pos) (tC v) :=
  fun _ _ _ H _ I h => ld_blt I hg hm hv ⟨v,H,I,r,h⟩ hn hd
variable {a b:Expr} {ta tb:TE} {pos:Pos}
noncomputable def tB (t:TE):TT:=fun σ H Q => t σ H fun x H1 => ∃ c,x = .bl c /\ Q c H1
variable {tA tB':TT} {rest:List Expr}
noncomputable def tAnd (t u:TT):TT:=fun σ H Q => t σ H fun c H1 => if c = true then u σ H1 Q else Q false H1
noncomputable def tOr (t u:TT):TT:=fun σ H Q => t σ H fun c H1 => if c = true then Q true H1 else u σ H1 Q
noncomputable def tNot (t:TT):TT:=fun σ H Q => t σ H fun c H1 => Q (!c) H1
theorem pw_and1 (ha:PT X a tA):PW X (.BoolOp .And [a] pos) tA:=by
  intro wh pins s σ H Q I h
  refine isTrue_and (thn (ha pins s σ H Q I h) fun c s1 e => ?_)
  cases c with
  | true => exact isTrue_and_nil e
  | false => exact e
theorem pw_or1 (ha:PT X a tA):PW X (.BoolOp .Or [a] pos) tA:=by
  intro wh pins s σ H Q I h
  refine isTrue_or (thn (ha pins s σ H Q I h) fun c s1 e => ?_)
  cases c with
  | false => exact isTrue_or_nil e
  | true => exact e
theorem pw_and (ha:PT X a tA) (hb:PW X (.BoolOp .And (b :: rest) pos) tB'):PW X (.BoolOp .And (a :: b :: rest) pos) (tAnd tA tB'):=by
  intro wh pins s σ H Q I h
  refine isTrue_and (thn (ha pins s σ H _ I h) fun c s1 ⟨H1,I1,q1⟩ => ?_)
  cases c with
  | true => exact hb wh pins s1 σ H1 Q I1 q1
  | false => exact ⟨H1,I1,q1⟩
theorem pw_or (ha:PT X a tA) (hb:PW X (.BoolOp .Or (b :: rest) pos) tB'):PW X (.BoolOp .Or (a :: b :: rest) pos) (tOr tA tB'):=by
  intro wh pins s σ H Q I h
  refine isTrue_or (thn (ha pins s σ H _ I h) fun c s1 ⟨H1,I1,q1⟩ => ?_)
  cases c with
  | true => exact ⟨H1,I1,q1⟩
  | false => exact hb wh pins s1 σ H1 Q I1 q1
noncomputable def tAndV (ta tb:TE):TE:=fun σ H Q => ta σ H fun x H1 => ∃ c,x = .bl c /\ if c = true then tb σ H1 Q else Q (.bl false) H1
noncomputable def tOrV (ta tb:TE):TE:=fun σ H Q => ta σ H fun x H1 => ∃ c,x = .bl c /\ if c = true then Q (.bl true) H1 else tb σ H1 Q
noncomputable def tNotV (ta:TE):TE:=fun σ H Q => ta σ H fun x H1 => ∃ c,x = .bl c /\ Q (.bl (!c)) H1
noncomputable def tIf (t:TT) (ta tb:TE):TE:=fun σ H Q => t σ H fun c H1 => if c = true then ta σ H1 Q else tb σ H1 Q
theorem pe_ifExp {c:Expr} (hc:PT X c tA) (ha:PE X a ta) (hb:PE X b tb):PE X (.IfExp c a b pos) (tIf tA ta tb):=by
  intro pins s σ H Q I h
  refine wpAny_IfExp (thn (hc pins s σ H _ I h) fun d s1 ⟨H1,I1,q1⟩ => ?_)
  cases d with
  | true => exact ha pins s1 σ H1 Q I1 q1
  | false => exact hb pins s1 σ H1 Q I1 q1
end
end L2
namespace L2
open PySem PySem.Spec PyProof.Rows
noncomputable def SqL (K:PySem.W.Frag) (H:Hp) (a:Addr) (xs:List V):Prop :=
  Rd H a (.lst xs) ∨
    ∃ (o:Obj) (its:Array Value) (n:Nat),K.lookup a = some o /\ o.cls = .type "list" /\ o.dict = none /\ o.data = .seq its n /\ its.size <= sizeLine /\ Vals xs its.toList
noncomputable def SqT (K:PySem.W.Frag) (H:Hp) (a:Addr) (xs:List V):Prop :=
  Rd H a (.tup xs) ∨
    ∃ (o:Obj) (its:Array Value) (n:Nat),K.lookup a = some o /\ o.cls = .type "tuple" /\ o.data = .seq its n /\ its.size <= sizeLine /\ Vals xs its.toList
noncomputable def absV:Value -> Option V
  | .none => some .non
  | .bool b => some (.bl b)
  | .int i _ => some (.int i)
  | .str x _ => some (.str x)
  | .bytes b _ => some (.byt b)
  | .float b _ => some (.flt b)
  | .ref a => some (.ref a)
  | .type n => some (.ty n)
  | _ => none
theorem RelV.abs {x:V} {u:Value} (r:RelV x u):absV u = some x:=by
  cases x with
  | non => cases r; rfl
  | bl _ => cases r; rfl
  | int _ => obtain ⟨t,rfl⟩:=r; rfl
  | str _ => obtain ⟨t,rfl⟩:=r; rfl
  | byt _ => obtain ⟨t,rfl⟩:=r; rfl
  | flt _ => obtain ⟨t,rfl⟩:=r; rfl
  | ref _ => cases r; rfl
  | ty _ => cases r; rfl
theorem RelV.inj {x y:V} {u:Value} (r:RelV x u) (q:RelV y u):x = y:=Option.some.inj (r.abs.symm.trans q.abs)
theorem Vals.inj:∀ {xs ys:List V} {us:List Value},Vals xs us -> Vals ys us -> xs = ys
  | _,_,_,.nil,.nil => rfl
  | _,_,_,.cons r t,.cons r' t' => by rw [r.inj r',Vals.inj t t']
section
variable {X:Cx} {pins:List (Addr×Obj)} {σ:St} {H:Hp} {s:Shared} {a:Addr} {xs ys:List V}
theorem SqL.of {K:PySem.W.Frag} (h:H a = some (.lst xs)):SqL K H a xs:=.inl (.inl h)
theorem SqT.of {K:PySem.W.Frag} (h:H a = some (.tup xs)):SqT K H a xs:=.inl (.inl h)
theorem Inv.list (I:Inv X pins σ H s) (h:SqL X.K H a xs):∃ its:List Value,Vals xs its /\ PlainL s.heap a its.toArray /\ xs.length <= sizeLine:=by
  rcases h with h | ⟨o,its,n,hk,hc,hd,hs,hz,r⟩
  . obtain ⟨z,its,n,r,e⟩:=h.ok I.hok
    exact ⟨its,r,⟨_,n,e,rfl,rfl,rfl⟩,z⟩
  . refine ⟨its.toList,r,⟨o,n,I.kIn a o hk,hc,hd,by simpa using hs⟩,?_⟩
    have e:=r.length
    simp only [Array.length_toList] at e
    omega
theorem Inv.tuple (I:Inv X pins σ H s) (h:SqT X.K H a xs):∃ its:List Value,Vals xs its /\ IsTup s.heap a its.toArray /\ xs.length <= sizeLine:=by
  rcases h with h | ⟨o,its,n,hk,hc,hs,hz,r⟩
  . obtain ⟨z,its,r,p⟩:=h.ok I.hok
    exact ⟨its,r,p,z.1⟩
  . refine ⟨its.toList,r,⟨o,I.kIn a o hk,hc,n,by simpa using hs⟩,?_⟩
    have e:=r.length
    simp only [Array.length_toList] at e
    omega
theorem Inv.list_inj (I:Inv X pins σ H s) (h:SqL X.K H a xs) (h':SqL X.K H a ys):xs = ys:=by
  obtain ⟨its,r,⟨o,n,e,_,_,d⟩,_⟩:=I.list h
  obtain ⟨its',r',⟨o',n',e',_,_,d'⟩,_⟩:=I.list h'
  rw [e] at e'; cases e'
  rw [d] at d'
  injection d' with d1 _
  have:its = its':=by simpa using congrArg Array.toList d1
  subst this
  exact r.inj r'
end
noncomputable abbrev Cx.wish (X:Cx) (E:Value -> Shared -> Prop):Cx:={ X with xe:=E }
noncomputable abbrev Cx.nox (X:Cx):Cx:=X.wish fun _ _ => False
theorem Cx.Ok.wish {X:Cx} (ok:X.Ok) (E:Value -> Shared -> Prop):(X.wish E).Ok :=
  ⟨ok.mod,ok.kind,ok.glob,ok.blt,ok.above,ok.inj,ok.has,ok.cab,ok.hd,ok.frames,ok.stk,ok.exf,ok.bs,ok.bsz,ok.noex,ok.exfs,ok.funs,ok.frf⟩
theorem Cx.Ok.unwish {X:Cx} {E:Value -> Shared -> Prop} (ok:(X.wish E).Ok):X.Ok :=
  ⟨ok.mod,ok.kind,ok.glob,ok.blt,ok.above,ok.inj,ok.has,ok.cab,ok.hd,ok.frames,ok.stk,ok.exf,ok.bs,ok.bsz,ok.noex,ok.exfs,ok.funs,ok.frf⟩
section
variable {X:Cx} {pins:List (Addr×Obj)} {σ:St} {H:Hp} {s:Shared} {E:Value -> Shared -> Prop}
theorem Inv.wish (I:Inv X pins σ H s) (E:Value -> Shared -> Prop):Inv (X.wish E) pins σ H s:=⟨I.ok.wish E,I.os,I.bare,I.base,I.loc,I.cell,I.free,I.freeC,I.pin,I.hok,I.len⟩
theorem Inv.unwish (I:Inv (X.wish E) pins σ H s):Inv X pins σ H s:=⟨I.ok.unwish,I.os,I.bare,I.base,I.loc,I.cell,I.free,I.freeC,I.pin,I.hok,I.len⟩
theorem SP.unwish {D:Ends} {f:Flow} {s':Shared} (h:SP (X.wish E) pins D f s'):SP X pins D f s':=by
  cases f with
  | next => obtain ⟨σ',H',I,q⟩:=h; exact ⟨σ',H',I.unwish,q⟩
  | brk => obtain ⟨σ',H',I,q⟩:=h; exact ⟨σ',H',I.unwish,q⟩
  | cont => obtain ⟨σ',H',I,q⟩:=h; exact ⟨σ',H',I.unwish,q⟩
  | ret u => obtain ⟨v,σ',H',I,r,q⟩:=h; exact ⟨v,σ',H',I.unwish,r,q⟩
theorem PE.nox {e:Expr} {t:TE} (h:PE X.nox e t):PE X e t:=fun pins s σ H Q I hw =>
  wpAny_mono (h pins s σ H Q (I.wish _) hw) (fun _ _ ⟨v,H',I',r,q⟩ => ⟨v,H',I'.unwish,r,q⟩) fun _ _ z => False.elim z
theorem PT.nox {e:Expr} {t:TT} (h:PT X.nox e t):PT X e t:=fun pins s σ H Q I hw =>
  wpAny_mono (h pins s σ H Q (I.wish _) hw) (fun _ _ ⟨H',I',q⟩ => ⟨H',I'.unwish,q⟩) fun _ _ z => False.elim z
theorem PSs.nox {st:List Stmt} {t:TS} (h:PSs X.nox st t):PSs X st t:=fun pins s σ H D I hw =>
  wpAny_mono (h pins s σ H D (I.wish _) hw) (fun _ _ q => q.unwish) fun _ _ z => False.elim z
end
section
variable {X:Cx} {st:Stmt} {rest:List Stmt} {t u:TS} {e:Expr} {te:TE} {pos:Pos}
noncomputable def tNext:TS:=fun D σ H => D.nx σ H
noncomputable def tSeq (t u:TS):TS:=fun D σ H => t { D with nx:=u D } σ H
theorem pss_nil:PSs X [] tNext:=fun _ _ σ H _ I h => wpAny_execs_nil ⟨σ,H,I,h⟩
theorem pss_cons (h1:PS X st t) (h2:PSs X rest u):PSs X (st :: rest) (tSeq t u):=by
  intro pins s σ H D I h
  refine wpAny_execs_cons (thn (h1 pins s σ H { D with nx:=u D } I h) fun f s1 q => ?_)
  cases f with
  | next =>
    obtain ⟨σ',H',I',q⟩:=q
    exact h2 pins s1 σ' H' D I' q
  | ret v => exact q
  | brk => exact q
  | cont => exact q
theorem pss_one (h1:PS X st t):PSs X [st] t:=by
  intro pins s σ H D I h
  refine wpAny_execs_cons (thn (h1 pins s σ H D I h) fun f s1 q => ?_)
  cases f with
  | next => exact wpAny_execs_nil q
  | ret v => exact q
  | brk => exact q
  | cont => exact q
noncomputable def tBreak:TS:=fun D σ H => D.bk σ H
noncomputable def tCont:TS:=fun D σ H => D.ct σ H
theorem Inv.quiet {pins:List (Addr×Obj)} {σ:St} {H:Hp} {s:Shared} (I:Inv X pins σ H s):interactive X.env = false:=by simp [interactive,I.ok.kind]
noncomputable def tDrop (te:TE):TS:=fun D σ H => te σ H fun _ H1 => D.nx σ H1
theorem ps_expr (he:PE X e te) (hs:swapsWith e none pos.line X.env = pure false:=by rfl):PS X (.Expr e pos) (tDrop te):=by
  intro pins s σ H D I h
  exact wpAny_Expr_any (thn (he pins s σ H _ I h) fun v s1 ⟨x,H1,I1,r1,q1⟩ => ⟨σ,H1,I1,q1⟩) I.quiet hs
noncomputable def tRet (te:TE):TS:=fun D σ H => te σ H D.rt
theorem ps_ret (he:PE X e te):PS X (.Return (some e) pos) (tRet te):=by
  intro pins s σ H D I h
  exact wpAny_Return_some (thn (he pins s σ H _ I h) fun v s1 ⟨x,H1,I1,r1,q1⟩ => ⟨x,σ,H1,I1,r1,q1⟩)
noncomputable def tRetN:TS:=fun D _ H => D.rt .non H
noncomputable def tIfS (c:TT) (t u:TS):TS:=fun D σ H => c σ H fun b H1 => if b = true then t D σ H1 else u D σ H1
theorem ps_if {c:Expr} {a b:List Stmt} {tc:TT} (hc:PT X c tc) (ha:PSs X a t) (hb:PSs X b u):PS X (.If c a b pos) (tIfS tc t u):=by
  intro pins s σ H D I h
  refine wpAny_If (thn (hc pins s σ H _ I h) fun d s1 ⟨H1,I1,q1⟩ => ?_)
  cases d with
  | true => exact ha pins s1 σ H1 D I1 q1
  | false => exact hb pins s1 σ H1 D I1 q1
end
noncomputable abbrev TG:=V -> St -> Hp -> (St -> Hp -> Prop) -> Prop
noncomputable abbrev TGs:=List V -> St -> Hp -> (St -> Hp -> Prop) -> Prop
noncomputable def PG (X:Cx) (target:Expr) (t:TG):Prop :=
  ∀ (pins:List (Addr×Obj)) (s:Shared) (σ:St) (H:Hp) (v:V) (u:Value) (Q:St -> Hp -> Prop),Inv X pins σ H s -> RelV v u -> t v σ H Q ->
    wpAny (model X.prog X.w) X.A (assign target X.env u) (fun _ s' => ∃ σ' H',Inv X pins σ' H' s' /\ Q σ' H') X.xe s
noncomputable def PGs (X:Cx) (ts:List Expr) (t:TGs):Prop :=
  ∀ (pins:List (Addr×Obj)) (s:Shared) (σ:St) (H:Hp) (vs:List V) (us:List Value) (Q:St -> Hp -> Prop),Inv X pins σ H s -> Vals vs us -> t vs σ H Q ->
    wpAny (model X.prog X.w) X.A (assignInOrder ((assignEach ts X.env).map (·.2)) us) (fun _ s' => ∃ σ' H',Inv X pins σ' H' s' /\ Q σ' H') X.xe s
noncomputable abbrev TSet:=V -> V -> V -> Hp -> (Hp -> Prop) -> Prop
noncomputable abbrev TIp:=V -> V -> Hp -> VK -> Prop
noncomputable def PIp (X:Cx) (op:Operator) (t:TIp):Prop :=
  ∀ (pins:List (Addr×Obj)) (s:Shared) (σ:St) (H:Hp) (x y:V) (v u:Value) (Q:VK),Inv X pins σ H s -> RelV x v -> RelV y u -> t x y H Q ->
    wpAny (model X.prog X.w) X.A (inplaceOp op v u) (EP X pins σ Q) X.xe s
section
variable {X:Cx} {pos:Pos}
noncomputable def gName (i:Nat):TG:=fun v σ H Q => Q (σ.set i (some v)) H
theorem pg_name {i:Nat} {x:Str} (hN:X.N.Nodup) (hi:X.N[i]? = some x) (hx:Loc X.env.scope x) (hf:X.fn x = true ∨ X.env.scope.names.lookup x = some .local:=by first | exact .inl rfl | exact .inr rfl | assumption):PG X (.Name x pos) (gName i):=by
  intro pins s σ H v u Q I r h
  exact wpAny_assign_Name (store_ok I hN hi hx r (fun s' I' => ⟨_,H,I',h⟩) hf)
noncomputable def gNil:TGs:=fun vs σ H Q => vs = [] /\ Q σ H
noncomputable def gCons (t:TG) (u:TGs):TGs:=fun vs σ H Q => ∃ v r,vs = v :: r /\ t v σ H fun σ' H' => u r σ' H' Q
theorem pgs_nil:PGs X [] gNil:=by
  intro pins s σ H vs us Q I r h
  obtain ⟨e,h⟩:=h
  subst e
  cases r
  exact assignInOrder_nil ⟨σ,H,I,h⟩
theorem pgs_cons {e:Expr} {es:List Expr} {t:TG} {u:TGs} (h1:PG X e t) (h2:PGs X es u)
    (hs:(assignEach (e :: es) X.env).map (·.2) = assign e X.env :: (assignEach es X.env).map (·.2):=by rfl):PGs X (e :: es) (gCons t u):=by
  intro pins s σ H vs us Q I r h
  obtain ⟨v,vr,e1,h⟩:=h
  subst e1
  cases r with
  | cons r rr =>
    rw [hs]
    refine assignInOrder_cons (thn (h1 pins s σ H _ _ _ I r h) fun _ s1 ⟨σ1,H1,I1,q1⟩ => ?_)
    exact h2 pins s1 σ1 H1 _ _ Q I1 rr q1
noncomputable def gTup (K:PySem.W.Frag) (n:Nat) (t:TGs):TG:=fun v σ H Q => ∃ a xs,v = .ref a /\ SqT K H a xs /\ xs.length = n /\ t xs σ H Q
theorem pg_tup {es:List Expr} {k:Nat} {t:TGs} {n:Nat} (hc:X.calm = true) (h:PGs X es t)
    (hn:(assignEach es X.env).length = n:=by rfl) (hst:(assignEach es X.env).findIdx? (·.1) = none:=by rfl):PG X (.Tuple es k pos) (gTup X.K n t):=by
  intro pins s σ H v u Q I r hw
  obtain ⟨a,xs,e1,hq,hl,hw⟩:=hw
  subst e1
  cases r
  obtain ⟨its,rv,ht,hz⟩:=I.tuple hq
  refine assign_Tuple_tuple (I.ok.hd hc) ht (by simp [hn,← hl,rv.length]) hst fun h' hx => ?_
  have I1:Inv X pins σ H { s with heap:=h' }:=I.kept (t':=s.toks) fun b o e => hx b o (Nat.ne_of_lt (Heap.lt_size e)) e
  exact h pins _ σ H xs _ Q I1 (by simpa using rv) hw
noncomputable def gSub (to ti:TE) (t:TSet):TG:=fun v σ H Q => to σ H fun o H1 => ti σ H1 fun i H2 => t o i v H2 fun H3 => Q σ H3
noncomputable def tAsg (te:TE) (g:TG):TS:=fun D σ H => te σ H fun x H1 => g x σ H1 D.nx
theorem ps_set {i:Nat} {x:Str} {e:Expr} {te:TE} {pos':Pos} (hN:X.N.Nodup) (hi:X.N[i]? = some x) (hx:Loc X.env.scope x) (he:PE X e te) (hs:swapsWith e (some (.Name x pos')) pos.line X.env = pure false:=by rfl) (hf:X.fn x = true ∨ X.env.scope.names.lookup x = some .local:=by first | exact .inl rfl | exact .inr rfl | assumption) :
    PS X (.Assign [.Name x pos'] e pos) (tAsg te (gName i)):=by
  intro pins s σ H D I h
  refine wpAny_Assign_Name (thn (he pins s σ H _ I h) fun v s1 ⟨y,H1,I1,r1,q1⟩ => ?_) hs
  exact store_ok I1 hN hi hx r1 (fun s2 I2 => ⟨_,H1,I2,q1⟩) hf
noncomputable def tPar (i j:Nat) (ta:TA):TS:=fun D σ H => ta σ H fun vs H1 => ∃ v w,vs = [v,w] /\ D.nx ((σ.set i (some v)).set j (some w)) H1
theorem ps_par {i j:Nat} {x y:Str} {a b:Expr} {ta:TA} {px py pt:Pos} {kt k2 pt2} (hc:X.calm = true) (hN:X.N.Nodup) (hi:X.N[i]? = some x) (hj:X.N[j]? = some y) (hij:i ≠ j)
    (hx:X.env.scope.names.lookup x = some .local) (hy:X.env.scope.names.lookup y = some .local) (ha:PA X [a,b] ta)
    (hw:swappedStores [.Tuple [.Name x px,.Name y py] kt pt] (.Tuple [a,b] k2 pt2) X.env = pure (some [x,y]))
    (hs:swapsWithSole [.Tuple [.Name x px,.Name y py] kt pt] (.Tuple [a,b] k2 pt2) pos.line X.env = pure false:=by rfl) :
    PS X (.Assign [.Tuple [.Name x px,.Name y py] kt pt] (.Tuple [a,b] k2 pt2) pos) (tPar i j ta):=by
  intro pins s σ H D I h
  rw [exec_Assign_arm]
  refine wpAny_bind (wpAny_standAt ?_)
  rw [hs]
  refine wpAny_bind (wpAny_pure ?_)
  rw [if_neg (by decide)]
  refine wpAny_bind (Tuple_ (thn (ha _ pins s σ H _ I h) fun us s1 ⟨vs,H1,I1,r1,q1⟩ => ?_))
  obtain ⟨v,w,e1,q1⟩:=q1
  subst e1
  obtain ⟨u1,u2,rfl,rv,rw'⟩:∃ u1 u2,us = [u1,u2] /\ RelV v u1 /\ RelV w u2:=by
    cases r1 with
    | cons p q =>
      cases q with
      | cons p' q' =>
        cases q'
        exact ⟨_,_,rfl,p,p'⟩
  refine wpAny_newObj_type ?_ (by show 2 <= sizeLine; decide)
  have I2:Inv X pins σ H1 { s1 with heap:=s1.heap.push { cls:=.type "tuple",data:=.seq [u1,u2].toArray } }:=I1.kept (t':=s1.toks) fun b o e => Heap.get?_push_of_some _ e
  rw [hw]
  refine wpAny_bind (wpAny_pure ?_)
  show wpAny (model X.prog X.w) X.A (do rule "assign.swapped-stores"; let items ← unpackItems (.ref s1.heap.objs.size) 2 none; assignInOrder [fun v => bindName X.env y v,fun v => bindName X.env x v] items.reverse; pure Flow.next) _ _ _
  refine wpAny_bind (wpAny_rule (wpAny_bind (unpackItems_tuple (items:=#[u1,u2]) (I.ok.hd hc) (IsTup.new s1.heap _) fun h' hx' => ?_)))
  have I3:=I2.kept (h':=h') (t':=s1.toks) fun b o e => hx' b o (Nat.ne_of_lt (Heap.lt_size e)) e
  show wpAny _ _ (assignInOrder [fun v => bindName X.env y v,fun v => bindName X.env x v] [u2,u1] >>= fun _ => pure Flow.next) _ _ _
  refine wpAny_bind (assignInOrder_cons (wpAny_bindName (store_ok I3 hN hj (.inl hy) rw' (fun s2 I4 => ?_) (.inr hy))))
  refine assignInOrder_cons (wpAny_bindName (store_ok I4 hN hi (.inl hx) rv (fun s3 I5 => assignInOrder_nil (wpAny_pure ?_)) (.inr hx)))
  rw [List.set_comm _ _ (Ne.symm hij)] at I5
  exact ⟨_,H1,I5,q1⟩
noncomputable def tAug (i:Nat) (te:TE) (ti:TIp):TS:=fun D σ H => ∃ x,σ[i]? = some (some x) /\ te σ H fun y H1 => ti x y H1 fun z H2 => D.nx (σ.set i (some z)) H2
theorem ps_aug {i:Nat} {x:Str} {e:Expr} {te:TE} {op:Operator} {ti:TIp} {pos':Pos} (hN:X.N.Nodup) (hi:X.N[i]? = some x) (hx:Loc X.env.scope x) (he:PE X e te) (ho:PIp X op ti) (hf:X.fn x = true ∨ X.env.scope.names.lookup x = some .local:=by first | exact .inl rfl | exact .inr rfl | assumption) :
    PS X (.AugAssign (.Name x pos') op e pos) (tAug i te ti):=by
  intro pins s σ H D I h
  obtain ⟨v,e1,h⟩:=h
  obtain ⟨m,hn,hl⟩:=I.loc
  have vis:Vis X.env.scope x:=by rcases hx with k | k; exact .inl k; exact .inr (.inl k)
  obtain ⟨u,r,l⟩:=hl i x v hi e1 vis
  refine wpAny_AugAssign_Name ?_
  have go:wpAny (model X.prog X.w) X.A (eval e X.env) (fun w s₂ => wpAny (model X.prog X.w) X.A (inplaceOp op u w) (fun r s₃ => wpAny (model X.prog X.w) X.A (storeName X.env x r) (fun _ => SP X pins D .next) X.xe s₃) X.xe s₂) X.xe s:=by
    refine thn (he pins s σ H _ I h) fun w s1 ⟨y,H1,I1,r1,q1⟩ => ?_
    refine thn (ho pins s1 σ H1 v y u w _ I1 r r1 q1) fun z s2 ⟨zv,H2,I2,r2,q2⟩ => ?_
    exact store_ok I2 hN hi hx r2 (fun s3 I3 => ⟨_,H2,I3,q2⟩) hf
  rcases l with ⟨hk,hm⟩ | ⟨hk,c,hc,hcell⟩
  . exact wpAny_loadName_local I.ok.kind hk hn hm go
  . rcases hk with hk | hk
    . exact wpAny_loadName_cell I.ok.kind hk hc hcell go
    . rcases hx with k | k
      . have:X.env.scope.names.lookup x = some .free:=hk
        rw [k] at this; cases this
      . have:X.env.scope.names.lookup x = some .free:=hk
        rw [k] at this; cases this
noncomputable def ipI (f:Int -> Int -> Int):TIp:=fun x y H Q => ∃ i j,x = .int i /\ y = .int j /\ Q (.int (f i j)) H
theorem ip_sub:PIp X .Sub (ipI fun i j => i - j):=by
  intro pins s σ H x y v u Q I r1 r2 h
  obtain ⟨i,j,e1,e2,q⟩:=h
  subst e1; subst e2
  obtain ⟨t,rfl⟩:=r1
  obtain ⟨t',rfl⟩:=r2
  exact isub_int ⟨.int _,H,I.tok _,⟨_,rfl⟩,q⟩
end
section
variable {X:Cx} {pos:Pos}
noncomputable def tWhile (c:TT) (tb:TS):TS:=fun D σ H => ∃ W:Nat -> St -> Hp -> Prop,(∃ m,W m σ H) /\ ∀ m σ H,W m σ H ->
  c σ H fun b H1 => if b = true then ∃ N:St -> Hp -> Prop,(∀ σ' H',N σ' H' -> ∃ m',m' < m /\ W m' σ' H') /\ tb { D with nx:=N,ct:=N,bk:=D.nx } σ H1 else D.nx σ H1
theorem ps_while {c:Expr} {body:List Stmt} {tc:TT} {tb:TS} (hp:PassesOwn (model X.prog X.w) X.A X.env X.xe) (hc:PT X c tc) (hb:PSs X body tb):PS X (.While c body [] pos) (tWhile tc tb):=by
  intro pins s σ H D I h
  obtain ⟨W,⟨m0,w0⟩,turn⟩:=h
  refine wpAny_While (codeAny_whileLoop (fun n s' => ∃ σ' H',Inv X pins σ' H' s' /\ W n σ' H') ?_ m0 ⟨σ,H,I,w0⟩)
  rintro n s1 ⟨σ1,H1,I1,w1⟩
  refine wpAny_passesOwn hp (thn (hc pins s1 σ1 H1 _ I1 (turn n σ1 H1 w1)) fun b s2 ⟨H2,I2,q2⟩ => ?_)
  cases b with
  | true =>
    obtain ⟨N,hN,q2⟩:=q2
    rw [if_pos rfl]
    refine wpAny_passesOwn hp (thn (hb pins s2 σ1 H2 _ I2 q2) fun f s3 q3 => ?_)
    cases f with
    | next =>
      obtain ⟨σ3,H3,I3,n3⟩:=q3
      obtain ⟨m',hm,w3⟩:=hN σ3 H3 n3
      exact ⟨m',hm,σ3,H3,I3,w3⟩
    | cont =>
      obtain ⟨σ3,H3,I3,n3⟩:=q3
      obtain ⟨m',hm,w3⟩:=hN σ3 H3 n3
      exact ⟨m',hm,σ3,H3,I3,w3⟩
    | brk => exact q3
    | ret v => exact q3
  | false =>
    rw [if_neg Bool.false_ne_true]
    exact wpAny_execs_nil ⟨σ1,H2,I2,q2⟩
end
structure It where
  go:Nat -> Hp -> Prop
  yld:Nat -> Hp -> V -> Hp -> Prop
  stop:Nat -> Hp -> Prop
noncomputable def FpOk (X:Cx) (pins:List (Addr×Obj)) (H:Hp) (b:Addr):Prop :=
  H b = none /\ b ≠ X.env.locals /\ b ∉ X.fs /\ (b ∈ X.ex ∨ X.s₀.heap.objs.size <= b) /\ (∀ x c,X.env.cells.lookup x = some c -> c ≠ b) /\ ∀ p ∈ X.pn ++ pins,p.1 ≠ b
theorem Inv.fpOk {X:Cx} {pins:List (Addr×Obj)} {σ:St} {H H':Hp} {s:Shared} {b:Addr} (I:Inv X pins σ H s) (hb:s.heap.objs.size <= b) (hn:H' b = none):FpOk X pins H' b:=by
  refine ⟨hn,Nat.ne_of_gt (Nat.lt_of_lt_of_le I.lt hb),I.nofs hb,.inr (Nat.le_trans I.sz hb),fun x c e z => ?_,fun p hp z => ?_⟩
  . obtain ⟨v,q⟩:=I.cell x c e
    exact absurd (Nat.lt_of_lt_of_le q.lt (by rw [z]; exact hb)) (Nat.lt_irrefl _)
  . exact absurd (Nat.lt_of_lt_of_le (Heap.lt_size (I.pin p hp).1) (by rw [z]; exact hb)) (Nat.lt_irrefl _)
structure Turn (P:Program) (w:World) (K:PySem.W.Frag) (tg:Expr) (J:It) (fp:List Addr) (it:Addr) (tn:Nat -> Heap -> Prop):Prop where
  mem:it ∈ fp
  obj:∀ i h,tn i h -> ∀ b ∈ fp,∃ o,h.get? b = some o /\ ∀ v,o.data ≠ .cell v
  keep:∀ i h h',tn i h -> (∀ b ∈ fp,∀ o,h.get? b = some o -> h'.get? b = some o) -> tn i h'
  item:∀ (X:Cx),X.prog = P -> X.w = w -> X.K = K -> X.calm = true -> ∀ (i:Nat) (pins:List (Addr×Obj)) (s:Shared) (σ:St) (H:Hp) (E:Value -> Shared -> Prop),Inv X pins σ H s -> (∀ b ∈ fp,FpOk X pins H b) -> tn i s.heap -> J.go i H ->
    wpAny (model P w) X.A (pyNext (.ref it)) (fun r s1 => ∃ u,r = some u /\
      wpAny (model P w) X.A (letOwnedTupleGo tg (.ref it) u) (fun _ s2 => ∃ x H',Inv X pins σ H' s2 /\ RelV x u /\ J.yld i H x H' /\ tn (i + 1) s2.heap /\ ∀ b ∈ fp,H' b = none) E s1) E s
  done:∀ (X:Cx),X.prog = P -> X.w = w -> X.K = K -> X.calm = true -> ∀ (i:Nat) (pins:List (Addr×Obj)) (s:Shared) (σ:St) (H:Hp) (E:Value -> Shared -> Prop),Inv X pins σ H s -> (∀ b ∈ fp,FpOk X pins H b) -> tn i s.heap -> J.stop i H ->
    wpAny (model P w) X.A (pyNext (.ref it)) (fun r s1 => r = none /\ Inv X pins σ H s1) E s
  self:∀ (A:Around) (i:Nat) (s:Shared) (Q:Value -> Shared -> Prop) (E:Value -> Shared -> Prop),tn i s.heap -> Q (.ref it) s -> wpAny (model P w) A (pyIter (.ref it)) Q E s
noncomputable abbrev TI:=St -> Hp -> (It -> Hp -> Prop) -> Prop
noncomputable def PIE (X:Cx) (pins:List (Addr×Obj)) (σ:St) (tg:Expr) (R:It -> Hp -> Prop) (itv:Value) (s2:Shared):Prop :=
  ∃ (it:Addr) (fp:List Addr) (tn:Nat -> Heap -> Prop) (J:It) (H':Hp),itv = .ref it /\ Inv X pins σ H' s2 /\ Turn X.prog X.w X.K tg J fp it tn /\ tn 0 s2.heap /\ (∀ b ∈ fp,FpOk X pins H' b) /\ R J H'
noncomputable def PI (X:Cx) (tg iter:Expr) (wi:TI):Prop :=
  ∀ (pins:List (Addr×Obj)) (s:Shared) (σ:St) (H:Hp) (R:It -> Hp -> Prop),Inv X pins σ H s -> wi σ H R ->
    wpAny (model X.prog X.w) X.A (eval iter X.env) (fun v s1 => wpAny (model X.prog X.w) X.A (pyIter v) (PIE X pins σ tg R) X.xe s1) X.xe s
theorem go_of {M:Model} {A:Around} {E:Value -> Shared -> Prop} {s:Shared} {tg:Expr} {it:Addr} {u:Value} {o:Obj} {n:String} {vs:Array Value} {Q:Unit -> Shared -> Prop} (ho:s.heap.get? it = some o) (hc:o.cls = .type n) (hd:o.data = .fields vs)
    (hn:["enumerate","zip","dict_itemiterator","dict_reverseitemiterator","odict_iterator","itertools.zip_longest","itertools.pairwise"].contains n = false) (hQ:Q () s):wpAny M A (letOwnedTupleGo tg (.ref it) u) Q E s:=by
  unfold letOwnedTupleGo
  cases tg <;> first
    | exact wpAny_pure hQ
    | (cases u <;> first
        | exact wpAny_pure hQ
        | (refine wpAny_bind (wpAny_load ho ?_)
           rw [hc,hd]
           show wpAny M A (if (["enumerate","zip","dict_itemiterator","dict_reverseitemiterator","odict_iterator","itertools.zip_longest","itertools.pairwise"].contains n && vs[0]? == some (rawInt _)) = true then _ else _) Q E s
           rw [if_neg (by intro h; rw [hn,Bool.false_and] at h; cases h)]
           exact wpAny_pure hQ))
noncomputable def Itl (K:PySem.W.Frag) (a:Addr):It :=
  ⟨fun i H => ∃ xs x,SqL K H a xs /\ xs[i]? = some x,fun i H x H' => H' = H /\ ∀ xs,SqL K H a xs -> xs[i]? = some x,fun i H => ∃ xs,SqL K H a xs /\ xs.length <= i⟩
noncomputable def Itt (K:PySem.W.Frag) (a:Addr):It :=
  ⟨fun i H => ∃ xs x,SqT K H a xs /\ xs[i]? = some x,fun i H x H' => H' = H /\ ∀ xs,SqT K H a xs -> xs[i]? = some x,fun i H => ∃ xs,SqT K H a xs /\ xs.length <= i⟩
noncomputable def Itr (lo:Int) (n:Nat):It:=⟨fun i _ => i < n,fun i H x H' => H' = H /\ x = .int (lo + i),fun i _ => n <= i⟩
theorem turn_list {P:Program} {w:World} {K:PySem.W.Frag} {tg:Expr} (a it:Addr):Turn P w K tg (Itl K a) [it] it (fun i h => h.IsListIter it a i) where
  mem:=by simp
  obj:=fun i h st b hb => by
    have e:b = it:=by simpa using hb
    subst e
    obtain ⟨o,e,c,d⟩:=st
    exact ⟨o,e,fun v z => by rw [d] at z; cases z⟩
  keep:=fun i h h' st k => st.at fun o e => k it (by simp) o e
  item:=by
    intro X hP hw hK hc i pins s σ H E I hf st hg
    subst hP hw hK
    obtain ⟨xs,x,hq,hx⟩:=hg
    obtain ⟨its,rv,p,hz⟩:=I.list hq
    obtain ⟨u,hu,ru⟩:=rv.get hx
    obtain ⟨f0,f1,f2,f3,f4,f5⟩:=hf it (by simp)
    refine wpAny_pyNext_list_item st p.isList (x:=u) (by simpa using hu) fun h' st' sb => ?_
    have I1:Inv X pins σ H { s with heap:=h' }:=I.turned (t':=s.toks) (fun b o hb e => (sb.2 b hb).trans e) f0 f1 f3 f4 f5
    obtain ⟨o,e,c,d⟩:=id st'
    exact ⟨u,rfl,go_of (s:={ s with heap:=h' }) e c d (by decide) ⟨x,H,I1,ru,⟨rfl,fun ys hy => by rw [I.list_inj hy hq]; exact hx⟩,st',fun b hb => (hf b hb).1⟩⟩
  done:=by
    intro X hP hw hK hc i pins s σ H E I hf st hg
    subst hP hw hK
    obtain ⟨xs,hq,hx⟩:=hg
    obtain ⟨its,rv,p,hz⟩:=I.list hq
    obtain ⟨f0,f1,f2,f3,f4,f5⟩:=hf it (by simp)
    have hl:=rv.length
    exact wpAny_pyNext_list_end (I.ok.hd hc) st p.isList (by simp; omega) fun h' eb => ⟨rfl,I.turned (t':=s.toks) (fun b o hb e => eb b o hb e) f0 f1 f3 f4 f5⟩
  self:=fun _ _ _ _ _ st h => wpAny_pyIter_listiter st h
theorem turn_range {P:Program} {w:World} {K:PySem.W.Frag} {tg:Expr} (it:Addr) (lo:Int) (n:Nat):Turn P w K tg (Itr lo n) [it] it (fun i h => IsRangeIter h it (lo + (i:Nat) * 1) ((n:Int) - (i:Nat)) 1) where
  mem:=by simp
  obj:=fun i h st b hb => by
    have e:b = it:=by simpa using hb
    subst e
    exact ⟨_,st,fun v z => by
      have z':Data.fields _ = Data.cell v:=z
      cases z'⟩
  keep:=fun i h h' st k => k it (by simp) _ st
  item:=by
    intro X hP hw hK hc i pins s σ H E I hf st hg
    subst hP hw hK
    obtain ⟨f0,f1,f2,f3,f4,f5⟩:=hf it (by simp)
    have W:=Walks.range (prog:=X.prog) (w:=X.w) (I.ok.hd hc) it lo 1 n
    refine W.item i s _ _ hg st fun v h' tk hv st' kk => ?_
    obtain ⟨t,rfl⟩:=hv
    have I1:Inv X pins σ H { s with heap:=h',toks:=tk }:=I.turned (fun b o hb e => kk b o (by simpa using hb) e) f0 f1 f3 f4 f5
    refine ⟨_,rfl,go_of (s:={ s with heap:=h',toks:=tk }) (n:="range_iterator") st' rfl rfl (by decide) ⟨.int (lo + i),H,I1,⟨t,?_⟩,⟨rfl,rfl⟩,st',fun b hb => (hf b hb).1⟩⟩
    rw [Int.mul_one]
  done:=by
    intro X hP hw hK hc i pins s σ H E I hf st hg
    subst hP hw hK
    obtain ⟨f0,f1,f2,f3,f4,f5⟩:=hf it (by simp)
    exact wpAny_pyNext_range_end (I.ok.hd hc) st (by have:n <= i:=hg; omega) fun h' eb => ⟨rfl,I.turned (t':=s.toks) (fun b o hb e => eb b o hb e) f0 f1 f3 f4 f5⟩
  self:=fun _ _ _ _ _ st h => wpAny_pyIter_rangeiter st h
end L2
namespace L2
open PySem PySem.Spec PyProof.Rows
section
variable {X:Cx} {tg:Expr}
noncomputable def iList (K:PySem.W.Frag) (tl:TE):TI:=fun σ H R => tl σ H fun x H1 => ∃ a,x = .ref a /\ (∃ xs,SqL K H1 a xs) /\ R (Itl K a) H1
noncomputable def iTup (K:PySem.W.Frag) (tl:TE):TI:=fun σ H R => tl σ H fun x H1 => ∃ a,x = .ref a /\ (∃ xs,SqT K H1 a xs) /\ R (Itt K a) H1
theorem pi_list {l:Expr} {tl:TE} (hl:PE X l tl):PI X tg l (iList X.K tl):=by
  intro pins s σ H R I h
  refine thn (hl pins s σ H _ I h) fun v s1 ⟨x,H1,I1,r1,q1⟩ => ?_
  obtain ⟨a,e,⟨xs,hq⟩,q⟩:=q1
  subst e
  cases r1
  obtain ⟨its,rv,p,hz⟩:=I1.list hq
  refine wpAny_pyIter_list p.isList ?_
  refine ⟨s1.heap.objs.size,[s1.heap.objs.size],_,_,H1,rfl,I1.kept (t':=s1.toks) fun b o e => Heap.get?_push_of_some _ e,turn_list a _,⟨_,Heap.get?_push_size _ rfl,rfl,rfl⟩,fun b hb => ?_,q⟩
  have e:b = s1.heap.objs.size:=by simpa using hb
  subst e
  exact I1.fpOk (Nat.le_refl _) (I1.hok.fresh (Nat.le_refl _))
theorem range_it {pins:List (Addr×Obj)} {σ:St} {H:Hp} {s:Shared} {R:It -> Hp -> Prop} {E:Value -> Shared -> Prop} {lo hi:Int} {t u v:Tok} {tk:Nat} (I:Inv X pins σ H s) (h1:-(2 ^ 62) <= lo) (h2:lo < 2 ^ 62) (h3:-(2 ^ 62) <= hi) (h4:hi < 2 ^ 62)
    (q:R (Itr lo (hi - lo).toNat) H):wpAny (model X.prog X.w) X.A (pyIter (.ref s.heap.objs.size)) (PIE X pins σ tg R) E { s with heap:=s.heap.push { cls:=.type "range",data:=.fields #[.int lo t,.int hi u,.int 1 v] },toks:=tk }:=by
  refine wpAny_pyIter_range (IsRange.new ..) (small_one h1 h2 h3 h4) ?_
  have I1:Inv X pins σ H { s with heap:=s.heap.push { cls:=.type "range",data:=.fields #[.int lo t,.int hi u,.int 1 v] },toks:=tk }:=I.kept fun b o e => Heap.get?_push_of_some _ e
  refine ⟨(s.heap.push { cls:=.type "range",data:=.fields #[.int lo t,.int hi u,.int 1 v] }).objs.size,[(s.heap.push { cls:=.type "range",data:=.fields #[.int lo t,.int hi u,.int 1 v] }).objs.size],_,_,H,rfl,
    I1.kept (t':=tk) fun b o e => Heap.get?_push_of_some _ e,turn_range _ lo (hi - lo).toNat,?_,fun b hb => ?_,q⟩
  . have e1:lo + ((0:Nat):Int) * 1 = lo:=by simp
    have e2:(((hi - lo).toNat:Nat):Int) - ((0:Nat):Int) = Builtin.Range.rangeSize lo hi 1:=by rw [rangeSize_one]; split <;> omega
    show IsRangeIter _ _ (lo + ((0:Nat):Int) * 1) ((((hi - lo).toNat:Nat):Int) - ((0:Nat):Int)) 1
    rw [e1,e2]
    exact Heap.get?_push_size _ rfl
  . have e:b = (s.heap.push { cls:=.type "range",data:=.fields #[.int lo t,.int hi u,.int 1 v] }).objs.size:=by simpa using hb
    subst e
    exact I1.fpOk (Nat.le_refl _) (I1.hok.fresh (Nat.le_refl _))
noncomputable def iRng1 (ta:TA):TI:=fun σ H R => ta σ H fun vs H1 => ∃ j:Int,vs = [.int j] /\ -(2 ^ 62) <= j /\ j < 2 ^ 62 /\ R (Itr 0 j.toNat) H1
noncomputable def iRng2 (ta:TA):TI:=fun σ H R => ta σ H fun vs H1 => ∃ i j:Int,vs = [.int i,.int j] /\ (-(2 ^ 62) <= i /\ i < 2 ^ 62 /\ -(2 ^ 62) <= j /\ j < 2 ^ 62) /\ R (Itr i (j - i).toNat) H1
theorem pi_range1 {a:Expr} {ta:TA} {p pos:Pos} (hg:Gl X "range") (hm:X.mg "range" = none) (ha:PA X [a] ta) (hs:starEach [a] X.env = [(false,eval a X.env)]:=by rfl):PI X tg (.Call (.Name "range" p) [a] [] pos) (iRng1 ta):=by
  intro pins s σ H R I h
  refine Call_ (ld_blt I hg hm boot_range (PyProof.Rows.callWith_type1 (thn (ha pos pins s σ H _ I h) fun us s1 ⟨vs,H1,I1,r1,q1⟩ => ?_) hs rfl))
  obtain ⟨j,e,q1,q2,q⟩:=q1
  subst e
  cases r1 with
  | cons r rr =>
    cases rr
    obtain ⟨t,rfl⟩:=r
    exact call_range_1 (range_it I1 (by omega) (by omega) q1 q2 (by simpa using q))
theorem pi_range2 {a b:Expr} {ta:TA} {p pos:Pos} (hg:Gl X "range") (hm:X.mg "range" = none) (ha:PA X [a,b] ta) (hs:starEach [a,b] X.env = [(false,eval a X.env),(false,eval b X.env)]:=by rfl) (hs2:starEach [b] X.env = [(false,eval b X.env)]:=by rfl) :
    PI X tg (.Call (.Name "range" p) [a,b] [] pos) (iRng2 ta):=by
  intro pins s σ H R I h
  refine Call_ (ld_blt I hg hm boot_range (PyProof.Rows.callWith_type1 (thn (ha pos pins s σ H _ I h) fun us s1 ⟨vs,H1,I1,r1,q1⟩ => ?_) (by rw [hs,hs2]) (by rw [hs2]; rfl)))
  obtain ⟨i,j,e,⟨q1,q2,q3,q4⟩,q⟩:=q1
  subst e
  cases r1 with
  | cons r rr =>
    cases rr with
    | cons r' rr =>
      cases rr
      obtain ⟨t,rfl⟩:=r
      obtain ⟨t',rfl⟩:=r'
      exact call_range_2 (range_it I1 q1 q2 q3 q4 q)
noncomputable def tFor (wi:TI) (g:TG) (tb:TS):TS:=fun D σ H => wi σ H fun J H1 => ∃ W:Nat -> Nat -> St -> Hp -> Prop,(∃ m,W 0 m σ H1) /\ ∀ i m σ H,W i m σ H ->
  (J.stop i H /\ D.nx σ H) ∨ (J.go i H /\ ∃ N:St -> Hp -> Prop,(∀ σ' H',N σ' H' -> ∃ m',m' < m /\ W (i + 1) m' σ' H') /\ ∀ x H',J.yld i H x H' -> g x σ H' fun σ2 H2 => tb { D with nx:=N,ct:=N,bk:=D.nx } σ2 H2)
noncomputable def pinsAt (fp:List Addr) (h:Heap):List (Addr×Obj):=fp.filterMap fun b => (h.get? b).map fun o => (b,o)
theorem mem_pinsAt {fp:List Addr} {h:Heap} {b:Addr} {o:Obj} (hb:b ∈ fp) (e:h.get? b = some o):(b,o) ∈ pinsAt fp h:=List.mem_filterMap.mpr ⟨b,hb,by rw [e]; rfl⟩
theorem of_pinsAt {fp:List Addr} {h:Heap} {p:Addr×Obj} (hp:p ∈ pinsAt fp h):p.1 ∈ fp /\ h.get? p.1 = some p.2:=by
  obtain ⟨b,hb,e⟩:=List.mem_filterMap.mp hp
  cases q:h.get? b with
  | none => rw [q] at e; cases e
  | some o =>
    rw [q] at e
    have e':(b,o) = p:=Option.some.inj e
    subst e'
    exact ⟨hb,q⟩
theorem Inv.pinned {pins:List (Addr×Obj)} {σ:St} {H:Hp} {s:Shared} {fp:List Addr} (I:Inv X pins σ H s) (hf:∀ b ∈ fp,FpOk X pins H b) (ho:∀ b ∈ fp,∃ o,s.heap.get? b = some o /\ ∀ v,o.data ≠ .cell v):Inv X (pins ++ pinsAt fp s.heap) σ H s :=
  I.pins_of fun p hp => (List.mem_append.mp hp).elim (fun z => I.pin p (List.mem_append_right _ z)) fun z => by
    obtain ⟨hb,e⟩:=of_pinsAt z
    obtain ⟨f0,f1,f2,_⟩:=hf p.1 hb
    obtain ⟨o,e',d⟩:=ho p.1 hb
    rw [e] at e'; cases e'
    exact ⟨e,f0,f1,f2,d⟩
theorem Inv.unpinned {pins pl:List (Addr×Obj)} {σ:St} {H:Hp} {s:Shared} (I:Inv X (pins ++ pl) σ H s):Inv X pins σ H s:=I.pins_of fun p hp => I.pin p (List.mem_append_right _ (List.mem_append_left _ hp))
theorem ps_for {iter:Expr} {body:List Stmt} {wi:TI} {g:TG} {tb:TS} {pos:Pos} (hp:PassesOwn (model X.prog X.w) X.A X.env X.xe) (hc:X.calm = true) (hi:PI X tg iter wi) (hg:PG X tg g) (hb:PSs X body tb)
    (hs:∀ x,foldedSetIterable iter X.env x = pure x:=by intro _; rfl):PS X (.For tg iter body [] pos) (tFor wi g tb):=by
  intro pins s σ H D I h
  refine wpAny_For (thn (hi pins s σ H _ I h) fun v s1 h1 => thn h1 fun itv s2 h2 => ?_) hs
  obtain ⟨it,fp,tn,J,H2,e,I2,T,st2,f2,W,⟨m0,w0⟩,turn⟩:=h2
  subst e
  -- what stays true of the iterator's objects through the loop
  have stat:∀ {H':Hp},(∀ b ∈ fp,H' b = none) -> ∀ b ∈ fp,FpOk X pins H' b:=fun hn b hb => ⟨hn b hb,(f2 b hb).2⟩
  refine codeAny_forLoop_any (fun n s' => ∃ i σ' H',Inv X pins σ' H' s' /\ tn i s'.heap /\ (∀ b ∈ fp,H' b = none) /\ W i n σ' H') ?_ m0 ⟨0,σ,H2,I2,st2,fun b hb => (f2 b hb).1,w0⟩
  rintro n s3 ⟨i,σ3,H3,I3,st3,fr3,w3⟩
  rcases turn i n σ3 H3 w3 with ⟨stop,qn⟩ | ⟨go,N,hN,step⟩
  . refine wpAny_passesOwn hp (thn (T.done X rfl rfl rfl hc i pins s3 σ3 H3 X.xe I3 (stat fr3) st3 stop) fun r s4 ⟨hr,I4⟩ => ?_)
    subst hr
    exact wpAny_execs_nil ⟨σ3,H3,I4,qn⟩
  . refine wpAny_passesOwn hp (thn (T.item X rfl rfl rfl hc i pins s3 σ3 H3 X.xe I3 (stat fr3) st3 go) fun r s4 ⟨u,hr,h4⟩ => ?_)
    subst hr
    refine wpAny_passesOwn hp (thn h4 fun _ s5 ⟨x,H5,I5,r5,y5,st5,fr5⟩ => ?_)
    have I5':=I5.pinned (stat fr5) (T.obj _ _ st5)
    refine wpAny_passesOwn hp (thn (hg _ s5 σ3 H5 x u _ I5' r5 (step x H5 y5)) fun _ s6 ⟨σ6,H6,I6,q6⟩ => ?_)
    refine wpAny_passesOwn hp (thn (hb _ s6 σ6 H6 _ I6 q6) fun f s7 q7 => ?_)
    have again:∀ {σ7:St} {H7:Hp},Inv X (pins ++ pinsAt fp s5.heap) σ7 H7 s7 -> N σ7 H7 -> ∃ m,m < n /\ ∃ i σ' H',Inv X pins σ' H' s7 /\ tn i s7.heap /\ (∀ b ∈ fp,H' b = none) /\ W i m σ' H':=fun {σ7 H7} I7 n7 => by
      obtain ⟨m',hm,w7⟩:=hN σ7 H7 n7
      refine ⟨m',hm,i + 1,σ7,H7,I7.unpinned,T.keep _ _ _ st5 fun b hb o e => (I7.pin (b,o) (List.mem_append_right _ (List.mem_append_right _ (mem_pinsAt hb e)))).1,fun b hb => ?_,w7⟩
      obtain ⟨o,e,d⟩:=T.obj _ _ st5 b hb
      exact (I7.pin (b,o) (List.mem_append_right _ (List.mem_append_right _ (mem_pinsAt hb e)))).2.1
    cases f with
    | next => obtain ⟨σ7,H7,I7,n7⟩:=q7; exact again I7 n7
    | cont => obtain ⟨σ7,H7,I7,n7⟩:=q7; exact again I7 n7
    | brk => obtain ⟨σ7,H7,I7,q7⟩:=q7; exact ⟨σ7,H7,I7.unpinned,q7⟩
    | ret v => obtain ⟨x7,σ7,H7,I7,r7,q7⟩:=q7; exact ⟨x7,σ7,H7,I7.unpinned,r7,q7⟩
end
theorem for_list {K:PySem.W.Frag} {a:Addr} {xs:List V} {g:TG} {tb:TS} {D:Ends} {σ:St} {H:Hp} (Pv:Nat -> St -> Hp -> Prop) (h0:Pv 0 σ H) (hl:∀ i σ H,i <= xs.length -> Pv i σ H -> SqL K H a xs)
    (hs:∀ i x σ H,xs[i]? = some x -> Pv i σ H -> g x σ H fun σ2 H2 => tb { D with nx:=Pv (i + 1),ct:=Pv (i + 1),bk:=D.nx } σ2 H2) (hd:∀ σ H,Pv xs.length σ H -> D.nx σ H) :
    ∃ W:Nat -> Nat -> St -> Hp -> Prop,(∃ m,W 0 m σ H) /\ ∀ i m σ H,W i m σ H ->
      ((Itl K a).stop i H /\ D.nx σ H) ∨ ((Itl K a).go i H /\ ∃ N:St -> Hp -> Prop,(∀ σ' H',N σ' H' -> ∃ m',m' < m /\ W (i + 1) m' σ' H') /\ ∀ x H',(Itl K a).yld i H x H' -> g x σ H' fun σ2 H2 => tb { D with nx:=N,ct:=N,bk:=D.nx } σ2 H2):=by
  refine ⟨fun i m σ H => m = xs.length - i /\ i <= xs.length /\ Pv i σ H,⟨xs.length,by simp,Nat.zero_le _,h0⟩,?_⟩
  rintro i m σ H ⟨rfl,hi,p⟩
  have q:=hl i σ H hi p
  by_cases hlt:i < xs.length
  . refine .inr ⟨⟨xs,xs[i],q,by simp [hlt]⟩,Pv (i + 1),fun σ' H' p' => ⟨xs.length - (i + 1),by omega,rfl,hlt,p'⟩,fun x H' y => ?_⟩
    obtain ⟨e,y⟩:=y
    subst e
    exact hs i x σ _ (y xs q) p
  . have e:i = xs.length:=by omega
    subst e
    exact .inl ⟨⟨xs,q,Nat.le_refl _⟩,hd σ H p⟩
theorem for_range {lo:Int} {n:Nat} {g:TG} {tb:TS} {D:Ends} {σ:St} {H:Hp} (Pv:Nat -> St -> Hp -> Prop) (h0:Pv 0 σ H)
    (hs:∀ i σ H,i < n -> Pv i σ H -> g (.int (lo + i)) σ H fun σ2 H2 => tb { D with nx:=Pv (i + 1),ct:=Pv (i + 1),bk:=D.nx } σ2 H2) (hd:∀ σ H,Pv n σ H -> D.nx σ H) :
    ∃ W:Nat -> Nat -> St -> Hp -> Prop,(∃ m,W 0 m σ H) /\ ∀ i m σ H,W i m σ H ->
      ((Itr lo n).stop i H /\ D.nx σ H) ∨ ((Itr lo n).go i H /\ ∃ N:St -> Hp -> Prop,(∀ σ' H',N σ' H' -> ∃ m',m' < m /\ W (i + 1) m' σ' H') /\ ∀ x H',(Itr lo n).yld i H x H' -> g x σ H' fun σ2 H2 => tb { D with nx:=N,ct:=N,bk:=D.nx } σ2 H2):=by
  refine ⟨fun i m σ H => m = n - i /\ i <= n /\ Pv i σ H,⟨n,by simp,Nat.zero_le _,h0⟩,?_⟩
  rintro i m σ H ⟨rfl,hi,p⟩
  by_cases hlt:i < n
  . refine .inr ⟨hlt,Pv (i + 1),fun σ' H' p' => ⟨n - (i + 1),by omega,rfl,hlt,p'⟩,fun x H' y => ?_⟩
    obtain ⟨e,y⟩:=y
    subst e y
    exact hs i σ _ hlt p
  . have e:i = n:=by omega
    subst e
    exact .inl ⟨Nat.le_refl _,hd σ H p⟩
theorem while_by {c:TT} {tb:TS} {D:Ends} {σ:St} {H:Hp} (Pv:St -> Hp -> Prop) (μ:St -> Hp -> Nat) (h0:Pv σ H)
    (hs:∀ σ H,Pv σ H -> c σ H fun b H1 => if b = true then tb { D with nx:=fun σ' H' => Pv σ' H' /\ μ σ' H' < μ σ H,ct:=fun σ' H' => Pv σ' H' /\ μ σ' H' < μ σ H,bk:=D.nx } σ H1 else D.nx σ H1)
    (mono:∀ σ H Q Q',(∀ b H1,Q b H1 -> Q' b H1) -> c σ H Q -> c σ H Q'):tWhile c tb D σ H:=by
  refine ⟨fun m σ H => m = μ σ H /\ Pv σ H,⟨_,rfl,h0⟩,?_⟩
  rintro m σ H ⟨rfl,p⟩
  refine mono σ H _ _ (fun b H1 q => ?_) (hs σ H p)
  cases b with
  | true => exact ⟨_,fun σ' H' ⟨p',l⟩ => ⟨_,l,rfl,p'⟩,q⟩
  | false => exact q
end L2
namespace L2
open PySem PySem.Spec PyProof.Rows
noncomputable abbrev R2:=V -> V -> Hp -> VK -> Prop
noncomputable def OpR (X:Cx) (f:Value -> Value -> Sem Value) (r:R2):Prop :=
  ∀ (pins:List (Addr×Obj)) (s:Shared) (σ:St) (H:Hp) (x y:V) (v u:Value) (Q:VK),Inv X pins σ H s -> RelV x v -> RelV y u -> r x y H Q ->
    wpAny (model X.prog X.w) X.A (f v u) (EP X pins σ Q) X.xe s
noncomputable def UnR (X:Cx) (f:Value -> Sem Value) (r:V -> Hp -> VK -> Prop):Prop :=
  ∀ (pins:List (Addr×Obj)) (s:Shared) (σ:St) (H:Hp) (x:V) (v:Value) (Q:VK),Inv X pins σ H s -> RelV x v -> r x H Q ->
    wpAny (model X.prog X.w) X.A (f v) (EP X pins σ Q) X.xe s
noncomputable def CallR (X:Cx) (f:Value) (r:List V -> Hp -> VK -> Prop):Prop :=
  ∀ (pins:List (Addr×Obj)) (s:Shared) (σ:St) (H:Hp) (xs:List V) (us:List Value) (Q:VK),Inv X pins σ H s -> Vals xs us -> r xs H Q ->
    wpAny (model X.prog X.w) X.A (call f us) (EP X pins σ Q) X.xe s
noncomputable def TruR (X:Cx) (r:V -> Hp -> (Bool -> Hp -> Prop) -> Prop):Prop :=
  ∀ (pins:List (Addr×Obj)) (s:Shared) (σ:St) (H:Hp) (x:V) (v:Value) (Q:Bool -> Hp -> Prop),Inv X pins σ H s -> RelV x v -> r x H Q ->
    wpAny (model X.prog X.w) X.A (truthy v) (TP X pins σ Q) X.xe s
noncomputable def tOp (r:R2) (ta tb:TE):TE:=fun σ H Q => ta σ H fun x H1 => tb σ H1 fun y H2 => r x y H2 Q
noncomputable def tUn (r:V -> Hp -> VK -> Prop) (ta:TE):TE:=fun σ H Q => ta σ H fun x H1 => r x H1 Q
noncomputable def rI (C:Int -> Int -> Prop) (g:Int -> Int -> V):R2:=fun x y H Q => ∃ i j,x = .int i /\ y = .int j /\ C i j /\ Q (g i j) H
noncomputable def rI0 (g:Int -> Int -> V):R2:=fun x y H Q => ∃ i j,x = .int i /\ y = .int j /\ Q (g i j) H
noncomputable def rU (g:Int -> V):V -> Hp -> VK -> Prop:=fun x H Q => ∃ i,x = .int i /\ Q (g i) H
section
variable {X:Cx} {a b c:Expr} {ta tb tc:TE} {pos:Pos}
theorem binT (ha:PE X a ta) (hb:PE X b tb) {pins:List (Addr×Obj)} {s:Shared} {σ:St} {H:Hp} {R:V -> V -> Hp -> Prop} (I:Inv X pins σ H s)
    (h:ta σ H fun x H1 => tb σ H1 fun y H2 => R x y H2) {Q:Value -> Shared -> Prop} {f:Value -> Value -> Sem Value}
    (hf:∀ v u s2 x y H2,Inv X pins σ H2 s2 -> RelV x v -> RelV y u -> R x y H2 -> wpAny (model X.prog X.w) X.A (f v u) Q X.xe s2) :
    wpAny (model X.prog X.w) X.A (eval a X.env) (fun v s₁ => wpAny (model X.prog X.w) X.A (eval b X.env) (fun u s₂ => wpAny (model X.prog X.w) X.A (f v u) Q X.xe s₂) X.xe s₁) X.xe s:=by
  refine thn (ha pins s σ H _ I h) fun v s1 ⟨x,H1,I1,r1,q1⟩ => ?_
  refine thn (hb pins s1 σ H1 _ I1 q1) fun u s2 ⟨y,H2,I2,r2,q2⟩ => ?_
  exact hf v u s2 x y H2 I2 r1 r2 q2
theorem pe_op {op:Operator} {r:R2} (ho:OpR X (binaryOp op) r) (ha:PE X a ta) (hb:PE X b tb):PE X (.BinOp a op b pos) (tOp r ta tb):=by
  intro pins s σ H Q I h
  exact wpAny_BinOp (binT ha hb I h fun v u s2 x y H2 I2 rx ry q => ho pins s2 σ H2 x y v u Q I2 rx ry q)
theorem pe_un {op:UnaryOp} {r:V -> Hp -> VK -> Prop} (ho:UnR X (unaryOp op) r) (ha:PE X a ta):PE X (.UnaryOp op a pos) (tUn r ta):=by
  intro pins s σ H Q I h
  exact UnaryOp_ (thn (ha pins s σ H _ I h) fun v s1 ⟨x,H1,I1,r1,q1⟩ => ho pins s1 σ H1 x v Q I1 r1 q1)
theorem opI {f:Value -> Value -> Sem Value} {C:Int -> Int -> Prop} {g:Int -> Int -> Int}
    (rule:∀ (i j:Int) (t u:Tok) (s:Shared) (Q:Value -> Shared -> Prop) (E:Value -> Shared -> Prop),C i j -> Q (.int (g i j) s.toks) { s with toks:=s.toks + 1 } -> wpAny (model X.prog X.w) X.A (f (.int i t) (.int j u)) Q E s) :
    OpR X f (rI C fun i j => .int (g i j)):=by
  intro pins s σ H x y v u Q I rx ry h
  obtain ⟨i,j,rfl,rfl,hc,q⟩:=h
  obtain ⟨t,rfl⟩:=rx
  obtain ⟨t',rfl⟩:=ry
  exact rule i j t t' s _ _ hc ⟨.int (g i j),H,I.tok _,⟨_,rfl⟩,q⟩
theorem opI0 {f:Value -> Value -> Sem Value} {g:Int -> Int -> Int}
    (rule:∀ (i j:Int) (t u:Tok) (s:Shared) (Q:Value -> Shared -> Prop) (E:Value -> Shared -> Prop),Q (.int (g i j) s.toks) { s with toks:=s.toks + 1 } -> wpAny (model X.prog X.w) X.A (f (.int i t) (.int j u)) Q E s) :
    OpR X f (rI0 fun i j => .int (g i j)):=by
  intro pins s σ H x y v u Q I rx ry h
  obtain ⟨i,j,rfl,rfl,q⟩:=h
  obtain ⟨t,rfl⟩:=rx
  obtain ⟨t',rfl⟩:=ry
  exact rule i j t t' s _ _ ⟨.int (g i j),H,I.tok _,⟨_,rfl⟩,q⟩
theorem opB0 {f:Value -> Value -> Sem Value} {g:Int -> Int -> Bool}
    (rule:∀ (i j:Int) (t u:Tok) (s:Shared) (Q:Value -> Shared -> Prop) (E:Value -> Shared -> Prop),Q (.bool (g i j)) s -> wpAny (model X.prog X.w) X.A (f (.int i t) (.int j u)) Q E s) :
    OpR X f (rI0 fun i j => .bl (g i j)):=by
  intro pins s σ H x y v u Q I rx ry h
  obtain ⟨i,j,rfl,rfl,q⟩:=h
  obtain ⟨t,rfl⟩:=rx
  obtain ⟨t',rfl⟩:=ry
  exact rule i j t t' s _ _ ⟨.bl (g i j),H,I,rfl,q⟩
noncomputable def CPow (i j:Int):Prop:=0 <= j /\ j <= 1000000 /\ i.natAbs < 2 ^ 64
noncomputable def CMul (i j:Int):Prop:=(-(2 ^ 64) < i /\ i < 2 ^ 64) ∨ (-(2 ^ 64) < j /\ j < 2 ^ 64)
theorem CMul.ok {i j:Int} (h:CMul i j):IntMulOk i j:=by
  rcases h with ⟨h1,h2⟩ | ⟨h1,h2⟩
  . exact .of_left (intBits_le_64 h1 h2)
  . exact .of_right (intBits_le_64 h1 h2)
theorem op_add:OpR X (binaryOp .Add) (rI0 fun i j => .int (i + j)):=opI0 fun _ _ _ _ _ _ _ q => add_int q
theorem op_sub:OpR X (binaryOp .Sub) (rI0 fun i j => .int (i - j)):=opI0 fun _ _ _ _ _ _ _ q => sub_int q
theorem op_mod:OpR X (binaryOp .Mod) (rI (fun _ j => 0 < j) fun i j => .int (i % j)):=opI fun i j _ _ _ _ _ hc q => by
  have h1:(0:Int) < j:=hc
  exact mod_int' (by omega) (by rw [Int.fmod_eq_emod_of_nonneg i (by omega)]; exact q)
theorem op_modN:OpR X (binaryOp .Mod) (rI (fun _ j => j ≠ 0) fun i j => .int (i.fmod j)):=opI fun _ _ _ _ _ _ _ hc q => mod_int' hc q
theorem op_pow:OpR X (binaryOp .Pow) (rI CPow fun i j => .int (i ^ j.toNat)):=opI fun _ _ _ _ _ _ _ hc q => pow_int_small hc.1 hc.2.1 hc.2.2 q
theorem unI {f:Value -> Sem Value} {g:Int -> Int}
    (rule:∀ (i:Int) (t:Tok) (s:Shared) (Q:Value -> Shared -> Prop) (E:Value -> Shared -> Prop),Q (.int (g i) s.toks) { s with toks:=s.toks + 1 } -> wpAny (model X.prog X.w) X.A (f (.int i t)) Q E s) :
    UnR X f (rU fun i => .int (g i)):=by
  intro pins s σ H x v Q I rx h
  obtain ⟨i,rfl,q⟩:=h
  obtain ⟨t,rfl⟩:=rx
  exact rule i t s _ _ ⟨.int (g i),H,I.tok _,⟨_,rfl⟩,q⟩
theorem un_neg:UnR X (unaryOp .USub) (rU fun i => .int (-i)):=unI fun _ _ _ _ _ q => neg_int q
end
noncomputable def scal:V -> V -> Bool
  | .non,.non => true | .non,.int _ => true | .int _,.non => true | .non,.bl _ => true | .bl _,.non => true | .non,.str _ => true | .str _,.non => true
  | .int _,.int _ => true | .bl _,.bl _ => true | .str _,.str _ => true | .byt _,.byt _ => true
  | .int _,.str _ => true | .str _,.int _ => true | .bl _,.str _ => true | .str _,.bl _ => true
  | _,_ => false
noncomputable def rEq:R2:=fun x y H Q => scal x y = true /\ Q (.bl (decide (x = y))) H
noncomputable def rNe:R2:=fun x y H Q => scal x y = true /\ Q (.bl (!decide (x = y))) H
theorem dec_int {i j:Int}:decide (V.int i = V.int j) = (i == j):=by
  rw [Bool.eq_iff_iff]
  simp
theorem dec_bl {i j:Bool}:decide (V.bl i = V.bl j) = (i == j):=by
  rw [Bool.eq_iff_iff]
  simp
theorem dec_str {i j:Str}:decide (V.str i = V.str j) = (i == j):=by
  rw [Bool.eq_iff_iff]
  simp
theorem dec_byt {i j:Array UInt8}:decide (V.byt i = V.byt j) = (i.toList == j.toList):=by
  rw [Bool.eq_iff_iff]
  cases i
  cases j
  simp
section
variable {X:Cx} {a b c:Expr} {ta tb tc:TE} {pos:Pos}
theorem fin_bl {pins:List (Addr×Obj)} {σ:St} {H:Hp} {s:Shared} {Q:VK} {k k':Bool} (I:Inv X pins σ H s) (q:Q (.bl k) H) (e:k = k'):EP X pins σ Q (.bool k') s:=by
  subst e
  exact ⟨.bl k,H,I,rfl,q⟩
theorem op_eq:OpR X (compareOp .Eq) rEq:=by
  intro pins s σ H x y v u Q I rx ry h
  obtain ⟨hs,q⟩:=h
  cases x with
  | non =>
    cases rx
    cases y with
    | non => cases ry; exact PySem.EqNone.eq_none_none (fin_bl I q (by simp))
    | bl j => cases ry; exact PySem.EqNone.eq_none_bool (fin_bl I q (by simp))
    | int j => obtain ⟨t',rfl⟩:=ry; exact PySem.EqNone.eq_none_int (fin_bl I q (by simp))
    | str j => obtain ⟨t',rfl⟩:=ry; exact PySem.EqNone.eq_none_str (fin_bl I q (by simp))
    | _ => exact absurd (show false = true from hs) Bool.false_ne_true
  | bl i =>
    cases rx
    cases y with
    | non => cases ry; exact PySem.EqNone.eq_bool_none (fin_bl I q (by simp))
    | bl j => cases ry; exact eq_bool (fin_bl I q dec_bl)
    | str j => obtain ⟨t',rfl⟩:=ry; exact PySem.EqMixed.eq_bool_str (fin_bl I q (by simp))
    | _ => exact absurd (show false = true from hs) Bool.false_ne_true
  | int i =>
    obtain ⟨t,rfl⟩:=rx
    cases y with
    | non => cases ry; exact PySem.EqNone.eq_int_none (fin_bl I q (by simp))
    | int j => obtain ⟨t',rfl⟩:=ry; exact eq_int (fin_bl I q dec_int)
    | str j => obtain ⟨t',rfl⟩:=ry; exact PySem.EqMixed.eq_int_str (fin_bl I q (by simp))
    | _ => exact absurd (show false = true from hs) Bool.false_ne_true
  | str i =>
    obtain ⟨t,rfl⟩:=rx
    cases y with
    | non => cases ry; exact PySem.EqNone.eq_str_none (fin_bl I q (by simp))
    | bl j => cases ry; exact PySem.EqMixed.eq_str_bool (fin_bl I q (by simp))
    | int j => obtain ⟨t',rfl⟩:=ry; exact PySem.EqMixed.eq_str_int (fin_bl I q (by simp))
    | str j => obtain ⟨t',rfl⟩:=ry; exact eq_str (fin_bl I q dec_str)
    | _ => exact absurd (show false = true from hs) Bool.false_ne_true
  | byt i =>
    obtain ⟨t,rfl⟩:=rx
    cases y with
    | byt j => obtain ⟨t',rfl⟩:=ry; exact PySem.W.eq_bytes (fin_bl I q dec_byt)
    | _ => exact absurd (show false = true from hs) Bool.false_ne_true
  | _ => cases y <;> exact absurd (show false = true from hs) Bool.false_ne_true
theorem op_ne:OpR X (compareOp .NotEq) rNe:=by
  intro pins s σ H x y v u Q I rx ry h
  obtain ⟨hs,q⟩:=h
  cases x with
  | non =>
    cases rx
    cases y with
    | non => cases ry; exact PySem.EqNone.ne_none_none (fin_bl I q (by simp))
    | bl j => cases ry; exact PySem.EqNone.ne_none_bool (fin_bl I q (by simp))
    | int j => obtain ⟨t',rfl⟩:=ry; exact PySem.EqNone.ne_none_int (fin_bl I q (by simp))
    | str j => obtain ⟨t',rfl⟩:=ry; exact PySem.EqNone.ne_none_str (fin_bl I q (by simp))
    | _ => exact absurd (show false = true from hs) Bool.false_ne_true
  | bl i =>
    cases rx
    cases y with
    | non => cases ry; exact PySem.EqNone.ne_bool_none (fin_bl I q (by simp))
    | bl j => cases ry; exact ne_bool (fin_bl I q (congrArg not dec_bl))
    | str j => obtain ⟨t',rfl⟩:=ry; exact PySem.EqMixed.ne_bool_str (fin_bl I q (by simp))
    | _ => exact absurd (show false = true from hs) Bool.false_ne_true
  | int i =>
    obtain ⟨t,rfl⟩:=rx
    cases y with
    | non => cases ry; exact PySem.EqNone.ne_int_none (fin_bl I q (by simp))
    | int j => obtain ⟨t',rfl⟩:=ry; exact ne_int (fin_bl I q (congrArg not dec_int))
    | str j => obtain ⟨t',rfl⟩:=ry; exact PySem.EqMixed.ne_int_str (fin_bl I q (by simp))
    | _ => exact absurd (show false = true from hs) Bool.false_ne_true
  | str i =>
    obtain ⟨t,rfl⟩:=rx
    cases y with
    | non => cases ry; exact PySem.EqNone.ne_str_none (fin_bl I q (by simp))
    | bl j => cases ry; exact PySem.EqMixed.ne_str_bool (fin_bl I q (by simp))
    | int j => obtain ⟨t',rfl⟩:=ry; exact PySem.EqMixed.ne_str_int (fin_bl I q (by simp))
    | str j => obtain ⟨t',rfl⟩:=ry; exact ne_str (fin_bl I q (congrArg not dec_str))
    | _ => exact absurd (show false = true from hs) Bool.false_ne_true
  | byt i =>
    obtain ⟨t,rfl⟩:=rx
    cases y with
    | byt j => obtain ⟨t',rfl⟩:=ry; exact PySem.W.ne_bytes (fin_bl I q (congrArg not dec_byt))
    | _ => exact absurd (show false = true from hs) Bool.false_ne_true
  | _ => cases y <;> exact absurd (show false = true from hs) Bool.false_ne_true
theorem op_lt:OpR X (compareOp .Lt) (rI0 fun i j => .bl (decide (i < j))):=opB0 fun _ _ _ _ _ _ _ q => lt_int q
theorem op_le:OpR X (compareOp .LtE) (rI0 fun i j => .bl (decide (i <= j))):=opB0 fun _ _ _ _ _ _ _ q => le_int q
theorem op_gt:OpR X (compareOp .Gt) (rI0 fun i j => .bl (decide (j < i))):=opB0 fun _ _ _ _ _ _ _ q => gt_int q
theorem op_isN:OpR X (compareOp .Is) (fun x y H Q => y = .non /\ Q (.bl (decide (x = .non))) H):=by
  intro pins s σ H x y v u Q I rx ry h
  obtain ⟨rfl,q⟩:=h
  cases ry
  refine is_none_gen (fin_bl I q ?_)
  cases x <;> first
    | (cases rx; rfl)
    | (obtain ⟨t,rfl⟩:=rx; rfl)
theorem op_notN:OpR X (compareOp .IsNot) (fun x y H Q => y = .non /\ Q (.bl (!decide (x = .non))) H):=by
  intro pins s σ H x y v u Q I rx ry h
  obtain ⟨rfl,q⟩:=h
  cases ry
  refine isnot_none_gen (fin_bl I q ?_)
  cases x <;> first
    | (cases rx; rfl)
    | (obtain ⟨t,rfl⟩:=rx; rfl)
theorem OpR.or {f:Value -> Value -> Sem Value} {r r':R2} (h:OpR X f r) (h':OpR X f r'):OpR X f (fun x y H Q => r x y H Q ∨ r' x y H Q):=by
  intro pins s σ H x y v u Q I rx ry q
  rcases q with q | q
  . exact h pins s σ H x y v u Q I rx ry q
  . exact h' pins s σ H x y v u Q I rx ry q
theorem nomark (b:Expr) {op:CmpOp} (h:op ≠ .In:=by decide) (h2:op ≠ .NotIn:=by decide):behindInMarks op b = false:=by
  have e1:(op == CmpOp.In) = false:=by cases op <;> first | rfl | exact absurd rfl h
  have e2:(op == CmpOp.NotIn) = false:=by cases op <;> first | rfl | exact absurd rfl h2
  cases b <;> simp [behindInMarks,e1,e2]
theorem pe_cmpR {op:CmpOp} {r:R2} (ho:OpR X (compareOp op) r) (ha:PE X a ta) (hb:PE X b tb) (hm:behindInMarks op b = false):PE X (.Compare a [op] [b] pos) (tOp r ta tb):=by
  intro pins s σ H Q I h
  exact wpAny_Compare1 (binT ha hb I h fun v u s2 x y H2 I2 rx ry q => ho pins s2 σ H2 x y v u Q I2 rx ry q) hm
noncomputable def tTest (t:TE):TT:=fun σ H Q => t σ H fun x H' => ∃ k,x = .bl k /\ Q k H'
theorem pt_cmpR {op:CmpOp} {r:R2} (ho:OpR X (compareOp op) r) (ha:PE X a ta) (hb:PE X b tb) (hm:behindInMarks op b = false):PT X (.Compare a [op] [b] pos) (tTest (tOp r ta tb)):=by
  intro pins s σ H Q I h
  refine wpAny_isTrue_Compare1 (thn (ha pins s σ H _ I h) fun v s1 ⟨x,H1,I1,r1,q1⟩ => thn (hb pins s1 σ H1 _ I1 q1) fun u s2 ⟨y,H2,I2,r2,q2⟩ =>
    thn (ho pins s2 σ H2 x y v u _ I2 r1 r2 q2) fun c s3 ⟨z,H3,I3,r3,k,e,q3⟩ => ?_) hm
  subst e
  cases r3
  exact wpAny_truthy_bool ⟨H3,I3,q3⟩
noncomputable def TruV (K:PySem.W.Frag) (x:V) (H:Hp) (k:Bool):Prop :=
  match x with
  | .non => k = false
  | .bl b => k = b
  | .int i => k = (i != 0)
  | .str y => y.length <= sizeLine /\ k = ((y.length:Int) != 0)
  | .byt y => y.size <= sizeLine /\ k = ((y.size:Int) != 0)
  | .ref p => (∃ xs,SqL K H p xs /\ k = !xs.isEmpty) ∨ (∃ xs,SqT K H p xs /\ k = !xs.isEmpty) ∨ ∃ kvs,H p = some (.dK kvs) /\ k = !kvs.isEmpty
  | _ => False
theorem isEmpty_kv {κ:Type} {kvs:List (κ×V)} {vs:List (κ×Value)} (r:KV kvs vs):(!vs.isEmpty) = !kvs.isEmpty:=by
  cases r <;> rfl
theorem isEmpty_of {xs:List V} {its:List Value} (r:Vals xs its):(!its.toArray.isEmpty) = !xs.isEmpty:=by
  cases r <;> simp
theorem line63:(sizeLine:Nat) < 2 ^ 63:=by rw [sizeLine_eq]; decide
theorem tru_ok:TruR X (fun x H Q => ∃ k,TruV X.K x H k /\ Q k H):=by
  intro pins s σ H x v Q I rx h
  obtain ⟨k,e,q⟩:=h
  have hl:=line63
  have hs:sizeLine = 16777216:=sizeLine_eq
  cases x with
  | non =>
    cases rx
    have e':k = false:=e
    subst e'
    exact truthy_none ⟨H,I,q⟩
  | bl b =>
    cases rx
    have e':k = b:=e
    subst e'
    exact wpAny_truthy_bool ⟨H,I,q⟩
  | int i =>
    obtain ⟨t,rfl⟩:=rx
    have e':k = (i != 0):=e
    subst e'
    exact PySem.P.truthy_int ⟨H,I,q⟩
  | str y =>
    obtain ⟨t,rfl⟩:=rx
    obtain ⟨hy,e'⟩:y.length <= sizeLine /\ k = ((y.length:Int) != 0):=e
    subst e'
    exact PySem.P.truthy_str (by omega) ⟨H,I.tok _,q⟩
  | byt y =>
    obtain ⟨t,rfl⟩:=rx
    obtain ⟨hy,e'⟩:y.size <= sizeLine /\ k = ((y.size:Int) != 0):=e
    subst e'
    exact PySem.W.truthy_bytes (by omega) ⟨H,I.tok _,q⟩
  | ref p =>
    cases rx
    have e':(∃ xs,SqL X.K H p xs /\ k = !xs.isEmpty) ∨ (∃ xs,SqT X.K H p xs /\ k = !xs.isEmpty) ∨ ∃ kvs,H p = some (.dK kvs) /\ k = !kvs.isEmpty:=e
    rcases e' with ⟨xs,hx,e'⟩ | ⟨xs,hx,e'⟩ | ⟨kvs,hx,e'⟩
    . subst e'
      obtain ⟨its,r,pl,hz⟩:=I.list hx
      have hlen:=r.length
      exact wpAny_truthy_list pl.isList (by simp only [List.size_toArray]; omega) ⟨H,I.tok _,by rw [isEmpty_of r]; exact q⟩
    . subst e'
      obtain ⟨its,r,pl,hz⟩:=I.tuple hx
      have hlen:=r.length
      exact truthy_tuple pl (by simp only [List.size_toArray]; omega) ⟨H,I.tok _,by rw [isEmpty_of r]; exact q⟩
    . subst e'
      obtain ⟨hz,hS,vs,r,m⟩:kvs.length <= sizeLine /\ (p == sysModules) = false /\ ∃ vs,KV kvs vs /\ s.heap.DictOf (mixKind X.prog X.w) p vs:=I.hok p _ hx
      have hlen:kvs.length = vs.length:=Paired.length r
      exact wpAny_truthy_dict hS m (by omega) ⟨H,I.tok _,by rw [isEmpty_kv r]; exact q⟩
  | _ => exact (show False from e).elim
theorem pt_truth (ha:PE X a ta) (he:∀ whole,isTrue a X.env whole = (do let v ← whole; standAt a.pos; holding [v] (truthy v))) :
    PT X a (fun σ H Q => ta σ H fun x H' => ∃ k,TruV X.K x H' k /\ Q k H'):=by
  intro pins s σ H Q I h
  exact isTrue_plain (thn (ha pins s σ H _ I h) fun v s1 ⟨x,H1,I1,r1,q1⟩ => tru_ok pins s1 σ H1 x v Q I1 r1 q1) (he _)
theorem op_add_str:OpR X (binaryOp .Add) (fun x y H Q => ∃ i j,x = .str i /\ y = .str j /\ i.length + j.length <= sizeLine /\ Q (.str (i ++ j)) H):=by
  intro pins s σ H x y v u Q I rx ry h
  obtain ⟨i,j,rfl,rfl,hz,q⟩:=h
  obtain ⟨t,rfl⟩:=rx
  obtain ⟨t',rfl⟩:=ry
  exact add_str (fun t' tk => ⟨.str (i ++ j),H,I.tok _,⟨_,rfl⟩,q⟩) hz
theorem vals1 {x:V} {us:List Value} (r:Vals [x] us):∃ u,us = [u] /\ RelV x u:=by
  cases r with
  | cons r1 r2 => cases r2; exact ⟨_,rfl,r1⟩
theorem call_abs:CallR X (.builtin "abs") (fun xs H Q => ∃ i,xs = [.int i] /\ Q (.int (if i < 0 then -i else i)) H):=by
  intro pins s σ H xs us Q I r h
  obtain ⟨i,rfl,q⟩:=h
  obtain ⟨u,rfl,t,rfl⟩:=vals1 r
  exact call_abs_int fun u tk => ⟨.int (if i < 0 then -i else i),H,I.tok _,⟨_,rfl⟩,q⟩
noncomputable def LenV (K:PySem.W.Frag) (x:V) (H:Hp) (n:Nat):Prop :=
  match x with
  | .str y => y.length <= sizeLine /\ n = y.length
  | .byt y => y.size <= sizeLine /\ n = y.size
  | .ref p => (∃ xs,SqL K H p xs /\ n = xs.length) ∨ ∃ xs,SqT K H p xs /\ n = xs.length
  | _ => False
theorem call_len:CallR X (.builtin "len") (fun xs H Q => ∃ x n,xs = [x] /\ LenV X.K x H n /\ Q (.int n) H):=by
  intro pins s σ H xs us Q I r h
  obtain ⟨x,n,rfl,e,q⟩:=h
  obtain ⟨u,rfl,rx⟩:=vals1 r
  have hl:=line63
  have hs:sizeLine = 16777216:=sizeLine_eq
  cases x with
  | str y =>
    obtain ⟨t,rfl⟩:=rx
    obtain ⟨hy,e'⟩:y.length <= sizeLine /\ n = y.length:=e
    subst e'
    exact len_str (by omega) ⟨.int _,H,I.tok _,⟨_,rfl⟩,q⟩
  | byt y =>
    obtain ⟨t,rfl⟩:=rx
    obtain ⟨hy,e'⟩:y.size <= sizeLine /\ n = y.size:=e
    subst e'
    exact PySem.W.len_bytes (by omega) ⟨.int _,H,I.tok _,⟨_,rfl⟩,q⟩
  | ref p =>
    cases rx
    have e':(∃ xs,SqL X.K H p xs /\ n = xs.length) ∨ ∃ xs,SqT X.K H p xs /\ n = xs.length:=e
    rcases e' with ⟨xs,hx,e'⟩ | ⟨xs,hx,e'⟩
    . subst e'
      obtain ⟨its,r',pl,hz⟩:=I.list hx
      have hlen:=r'.length
      exact Calls.call_len_list pl.isList (by simp only [List.size_toArray]; omega) ⟨.int xs.length,H,I.tok _,⟨_,by simp only [List.size_toArray]; rw [hlen]⟩,q⟩
    . subst e'
      obtain ⟨its,r',pl,hz⟩:=I.tuple hx
      have hlen:=r'.length
      exact len_tuple pl (by simp only [List.size_toArray]; omega) ⟨.int xs.length,H,I.tok _,⟨_,by simp only [List.size_toArray]; rw [hlen]⟩,q⟩
  | _ => exact (show False from e).elim
end
end L2
namespace L2
open PySem PySem.Spec PyProof.Rows
structure ObjM (h:Heap) (x dx C:Addr) (mA:Str -> Option Value):Prop where
  obj:h.get? x = some (PySem.W.instObj C dx)
  ns:h.Ns1 dx mA
  ne:dx ≠ x
theorem lookIn_ns {h:Heap} {dx:Addr} {mA:Str -> Option Value} (n:h.Ns1 dx mA):∃ od,h.get? dx = some od /\ ∀ name,PySem.W.lookIn name od = some (mA name):=by
  obtain ⟨o,es,ep,ho,hd,hk,_,hm⟩:=n
  refine ⟨o,ho,fun name => ?_⟩
  have e:=hm name
  unfold nsFind findBy at e
  rw [← Array.find?_toList] at e
  unfold PySem.W.lookIn
  rw [hd]
  dsimp only
  split
  . rename_i y q
    rw [q] at e
    exact congrArg some e
  . rename_i q
    rw [q] at e
    have a:es.toList.any (·.refKey) = false:=by
      rw [List.any_eq_false]
      intro y hy
      obtain ⟨z,t,hkey⟩:=hk y (Array.mem_toList_iff.mp hy)
      simp [DictEntry.refKey,hkey]
    have a':¬ es.toList.any (·.refKey) = true:=by rw [a]; exact Bool.false_ne_true
    rw [if_neg a']
    exact congrArg some e
theorem ObjM.look {h:Heap} {x dx C:Addr} {mA:Str -> Option Value} (I:ObjM h x dx C mA):∃ od,PySem.W.InstAt h x (PySem.W.instObj C dx) C (some od) /\ ∀ name,PySem.W.lookIn name od = some (mA name) :=
  let ⟨od,ho,hl⟩:=lookIn_ns I.ns
  ⟨od,⟨I.obj,rfl,rfl,ho⟩,hl⟩
section
variable {prog:Program} {w:World} {A:Around} {E:Value -> Shared -> Prop} {s:Shared} {K:PySem.W.Frag} {x dx C f:Addr} {mA:Str -> Option Value} {name:Str} {v:Value}
end
theorem RelO.none_of {o:Option Value} (r:RelO none o):o = none:=by
  cases o with
  | none => rfl
  | some u => exact (show False from r).elim
section
variable {P:Program} {w:World} {H H':Hp} {h h':Heap} {a C dx:Addr} {fs fs':List (Str×V)}
end
structure Cls (K:PySem.W.Frag) (C:Addr):Prop where
  pg:PySem.W.plainGet K C Str.empty = true
  hd:PySem.W.hasDictIn K C = true
  po:PySem.W.plainOver K C = true
  sa:PySem.W.findIn K (.ref C) "__setattr__" = some (some (.builtin "object.__setattr__"))
theorem Cls.get {K:PySem.W.Frag} {C:Addr} (c:Cls K C) (f:Str):PySem.W.plainGet K C f = true:=c.pg
section
variable {X:Cx} {pins:List (Addr×Obj)} {σ:St} {H:Hp} {s:Shared} {a C dx:Addr} {fs:List (Str×V)} {f:Str} {v:V} {A:Around} {E:Value -> Shared -> Prop}
theorem Inv.made (I:Inv X pins σ H s):Inv X pins σ (upd (upd H s.heap.objs.size (.own (s.heap.objs.size + 1))) (s.heap.objs.size + 1) (.ins C s.heap.objs.size []))
    { s with heap:=(s.heap.push PySem.W.emptyDict).push (PySem.W.instObj C s.heap.objs.size) }:=by
  have e1:(s.heap.push PySem.W.emptyDict).get? s.heap.objs.size = some PySem.W.emptyDict:=Heap.get?_push_size s.heap rfl
  have e2:((s.heap.push PySem.W.emptyDict).push (PySem.W.instObj C s.heap.objs.size)).get? (s.heap.objs.size + 1) = some (PySem.W.instObj C s.heap.objs.size):=by
    have:=Heap.get?_push_size (s.heap.push PySem.W.emptyDict) (o:=PySem.W.instObj C s.heap.objs.size) rfl
    rwa [Heap.size_push] at this
  have e3:(s.heap.push PySem.W.emptyDict).Ns s.heap.objs.size (fun _ => none):=⟨PySem.W.emptyDict,#[],_,e1,rfl,(fun e he => absurd he (by simp)),fun _ => rfl⟩
  have I1:=I.laid (a:=s.heap.objs.size) (o:=.own (s.heap.objs.size + 1)) (h':=s.heap.push PySem.W.emptyDict) (t':=s.toks) (fun b u q => Heap.get?_push_of_some _ q) (Nat.le_refl _) ⟨_,e1⟩
  refine I1.laid (a:=s.heap.objs.size + 1) (o:=.ins C s.heap.objs.size []) (t':=s.toks) (fun b u q => Heap.get?_push_of_some _ q) (Nat.le_of_eq (Heap.size_push _ _)) ?_
  have ne:s.heap.objs.size ≠ s.heap.objs.size + 1:=Nat.ne_of_lt (Nat.lt_succ_self _)
  refine ⟨by rw [upd_ne ne,upd_same],Nat.zero_le _,ne,e2,fun _ => none,(Heap.Ns1.of_empty e3).at fun o q => Heap.get?_push_of_some _ q,fun _ => True.intro,fun y hy => absurd rfl hy⟩
end
section
variable {X:Cx} {o e value:Expr} {f:Str} {pos pos' tpos:Pos} {ta tv:TE}
end
section
variable {X:Cx} {pins:List (Addr×Obj)} {σ:St} {H:Hp} {s:Shared} {A:Around} {E:Value -> Shared -> Prop} {Q:Value -> Shared -> Prop} {c:Value} {b:Bool}
inductive TyOf (K:PySem.W.Frag) (H:Hp):V -> Value -> Prop where
  | non:TyOf K H .non (.type "NoneType")
  | bl (x:Bool):TyOf K H (.bl x) (.type "bool")
  | int (i:Int):TyOf K H (.int i) (.type "int")
  | str (x:Str):TyOf K H (.str x) (.type "str")
  | flt (x:UInt64):TyOf K H (.flt x) (.type "float")
  | lst {a:Addr} {xs:List V} (e:H a = some (.lst xs)):TyOf K H (.ref a) (.type "list")
  | frz {a:Addr} {o:Obj} {xs:List V} (e:H a = some (.frz o (.lst xs))):TyOf K H (.ref a) (.type "list")
  | tup {a:Addr} {xs:List V} (e:H a = some (.tup xs)):TyOf K H (.ref a) (.type "tuple")
  | dK {a:Addr} {kvs:List (Key×V)} (e:H a = some (.dK kvs)):TyOf K H (.ref a) (.type "dict")
  | dT {a:Addr} {kvs:List (List Key×V)} (e:H a = some (.dT kvs)):TyOf K H (.ref a) (.type "dict")
  | ins {a C dx:Addr} {fs:List (Str×V)} (e:H a = some (.ins C dx fs)) (cl:Cls K C) (ha:PySem.W.findIn K (.ref C) "__class__" = some (some (.builtin "object.__class__")))
      (hn:PySem.W.specialIn K (.builtin "object.__class__") "__get__" = some (some (.builtin "getset_descriptor.__get__"))) (htk:PySem.W.takesIn K (.builtin "object.__class__") = some true)
      (hm:PySem.W.mroIn K C (.type "object") = some true):TyOf K H (.ref a) (.ref C)
end
end L2
namespace L2
open PySem PySem.Spec PyProof.Rows
structure Room (k:Nat) (A:Around):Prop where
  hd:A.handled = none
  dp:A.depth + 3 * k + 5 < recursionLimit
  un:A.units + 16 * k + 200 < cLine
theorem Room.mono {j k:Nat} {A:Around} (r:Room k A) (h:j <= k):Room j A:=⟨r.hd,by have:=r.dp; omega,by have:=r.un; omega⟩
theorem Room.deeper {k:Nat} {A:Around} (r:Room (k + 1) A) (env:Env):Room k (A.deeper env) :=
  ⟨r.hd,by have:=r.dp; show A.depth + 1 + 3 * k + 5 < _; omega,by have:=r.un; show A.units + 3 + 16 * k + 200 < _; omega⟩
theorem Room.in1 {k:Nat} {A:Around} (r:Room (k + 1) A):Room k A.in1 :=
  ⟨r.hd,by have:=r.dp; show A.depth + 3 * k + 5 < _; omega,by have:=r.un; show A.units + 1 + 16 * k + 200 < _; omega⟩
theorem Room.depth {k:Nat} {A:Around} (r:Room k A):A.depth < recursionLimit:=by have:=r.dp; omega
theorem Room.units {k:Nat} {A:Around} (r:Room k A):A.units + 64 < cLine:=by have:=r.un; omega
noncomputable def tNil:TA:=fun _ H Q => Q [] H
noncomputable def tCons (ta:TE) (tr:TA):TA:=fun σ H Q => ta σ H fun x H1 => tr σ H1 fun xs H2 => Q (x :: xs) H2
section
variable {X:Cx} {e:Expr} {es:List Expr} {te:TE} {t:TA} {pos:Pos}
theorem pa_nil:PA X [] tNil:=fun _ _ _ _ H Q I h => Calls.spliced_nil ⟨[],H,I,.nil,h⟩
theorem pa_cons (ha:PE X e te) (hr:PA X es t) (hs:starEach (e :: es) X.env = (false,eval e X.env) :: starEach es X.env:=by rfl):PA X (e :: es) (tCons te t):=by
  intro pos pins s σ H Q I h
  rw [hs]
  show wpAny _ _ (spliced ((false,eval e X.env) :: backTo pos (starEach es X.env))) _ _ s
  refine Calls.spliced_cons (thn (ha pins s σ H _ I h) fun u s1 ⟨x,H1,I1,r1,q1⟩ => ?_)
  exact thn (hr pos pins s1 σ H1 _ I1 q1) fun us s2 ⟨xs,H2,I2,r2,q2⟩ => ⟨x :: xs,H2,I2,.cons r1 r2,q2⟩
noncomputable def tTup (t:TA):TE:=fun σ H Q => t σ H fun xs H1 => xs.length <= sizeLine /\ ∀ p,H1 p = none -> Q (.ref p) (upd H1 p (.tup xs))
noncomputable def tLst (t:TA):TE:=fun σ H Q => t σ H fun xs H1 => xs.length <= sizeLine /\ ∀ p,H1 p = none -> Q (.ref p) (upd H1 p (.lst xs))
theorem pe_tup {x1} (h:PA X es t):PE X (.Tuple es x1 pos) (tTup t):=by
  intro pins s σ H Q I hq
  refine wpAny_Tuple_spliced (thn (h pos pins s σ H _ I hq) fun us s1 ⟨xs,H1,I1,r,z,q⟩ => ⟨by rw [← r.length]; exact z,?_⟩)
  have hf:H1 s1.heap.objs.size = none:=I1.hok.fresh (Nat.le_refl _)
  refine ⟨.ref s1.heap.objs.size,upd H1 s1.heap.objs.size (.tup xs),I1.laid (t':=s1.toks) (fun b u e => Heap.get?_push_of_some _ e) (Nat.le_refl _) ?_,rfl,q _ hf⟩
  exact ⟨⟨z,_,Heap.get?_push_size _ rfl,rfl⟩,us,r,⟨_,Heap.get?_push_size _ rfl,rfl,_,rfl⟩⟩
theorem pe_lst (h:PA X es t):PE X (.List es pos) (tLst t):=by
  intro pins s σ H Q I hq
  refine wpAny_List_spliced (thn (h pos pins s σ H _ I hq) fun us s1 ⟨xs,H1,I1,r,z,q⟩ => ⟨by rw [← r.length]; exact z,?_⟩)
  have hf:H1 s1.heap.objs.size = none:=I1.hok.fresh (Nat.le_refl _)
  refine ⟨.ref s1.heap.objs.size,upd H1 s1.heap.objs.size (.lst xs),I1.laid (t':=s1.toks) (fun b u e => Heap.get?_push_of_some _ e) (Nat.le_refl _) ?_,rfl,q _ hf⟩
  exact ⟨z,us,0,r,Heap.get?_push_size _ rfl⟩
end
noncomputable abbrev Sp:=List V -> Hp -> VK -> XK -> Prop
noncomputable abbrev CXT:=List Env -> Hp -> Shared -> XK -> Value -> Shared -> Prop
structure Env0 (P:Program) (w:World) (K:PySem.W.Frag) (mg:Str -> Option Value) (base:Heap) (A:Around) (outer:List Env) (s:Shared) (H:Hp):Prop where
  frames:A.frames = some outer
  mod:Mod K mg base
  bs:∀ b o,base.get? b = some o -> s.heap.get? b = some o /\ H b = none
  bsz:base.objs.size <= s.heap.objs.size
  funs:s.heap.FunFrames base outer
  frf:∀ b ∈ frs outer,H b = none
  hok:HOk P w H s.heap
  bare:AllBare s.gens
noncomputable def CE (outer:List Env) (P:Program) (w:World) (H:Hp) (s:Shared) (Q:VK) (u:Value) (s':Shared):Prop :=
  ∃ v H',s'.os = s.os /\ AllBare s'.gens /\ Un (frs outer) [] H H' s.heap s'.heap /\ HOk P w H' s'.heap /\ RelV v u /\ Q v H'
noncomputable def CR (CX:CXT) (outer:List Env) (P:Program) (w:World) (H:Hp) (s:Shared) (Q:VK) (E:XK) (r:Result) (s':Shared):Prop :=
  match r with
  | .ok (.ret u) => CE outer P w H s Q u s'
  | .ok _ => False
  | .error e => CX outer H s E e s'
structure FnOk (P:Program) (w:World) (K:PySem.W.Frag) (mg:Str -> Option Value) (base:Heap) (CX:CXT) (k:Nat) (f:Addr) (fd:FuncData) (ps:List Str) (sp:Sp):Prop where
  len:∀ vs H Q E,sp vs H Q E -> vs.length = ps.length
  run:∀ (A:Around) (outer:List Env) (s:Shared) (H:Hp) (args:Args) (us:List Value) (vs:List V) (Q:VK) (E:XK),Room k A -> Env0 P w K mg base A outer s H -> BindsTo s fd args (ps.zip us) -> Vals vs us -> sp vs H Q E ->
    codeAny (model P w) A (.call (.ref f) args) (CR CX outer P w H s Q E) s
theorem FnOk.mono {P:Program} {w:World} {K:PySem.W.Frag} {mg:Str -> Option Value} {base:Heap} {CX:CXT} {j k:Nat} {f:Addr} {fd:FuncData} {ps:List Str} {sp:Sp} (F:FnOk P w K mg base CX j f fd ps sp) (h:j <= k) :
    FnOk P w K mg base CX k f fd ps sp:=⟨F.len,fun A outer s H args us vs Q E hr => F.run A outer s H args us vs Q E (hr.mono h)⟩
theorem FnOk.imp {P:Program} {w:World} {K:PySem.W.Frag} {mg:Str -> Option Value} {base:Heap} {CX:CXT} {k:Nat} {f:Addr} {fd:FuncData} {ps:List Str} {sp sp':Sp} (F:FnOk P w K mg base CX k f fd ps sp)
    (h:∀ vs H Q E,sp' vs H Q E -> sp vs H Q E):FnOk P w K mg base CX k f fd ps sp' :=
  ⟨fun vs H Q E q => F.len vs H Q E (h _ _ _ _ q),fun A outer s H args us vs Q E hr he hb hv hs => F.run A outer s H args us vs Q E hr he hb hv (h _ _ _ _ hs)⟩
theorem Env0.in1 {P:Program} {w:World} {K:PySem.W.Frag} {mg:Str -> Option Value} {base:Heap} {A:Around} {outer:List Env} {s:Shared} {H:Hp} (e:Env0 P w K mg base A outer s H) :
    Env0 P w K mg base A.in1 outer s H:=⟨e.frames,e.mod,e.bs,e.bsz,e.funs,e.frf,e.hok,e.bare⟩
section
variable {X:Cx} {pins:List (Addr×Obj)} {σ:St} {H:Hp} {s s':Shared}
theorem Inv.env0 (I:Inv X pins σ H s):Env0 X.prog X.w X.K X.mg X.base X.A X.stack s H :=
  ⟨I.ok.frames,I.ok.mod,I.bs,Nat.le_trans I.ok.bsz I.sz,I.stack,I.stkFree,I.hok,I.bare⟩
theorem Inv.after {Q:VK} {u:Value} (I:Inv X pins σ H s) (h:CE X.stack X.prog X.w H s Q u s'):EP X pins σ Q u s':=by
  obtain ⟨v,H',os,bare,un,hok,r,q⟩:=h
  obtain ⟨hh,g,d,t,os'⟩:=s'
  obtain rfl:os' = s.os:=os
  exact ⟨v,H',I.call (h':=hh) (g':=g) (d':=d) (t':=t) (ch:=[]) un hok bare (fun b z => absurd z (by simp)),r,q⟩
end
noncomputable def tCall (sp:Sp) (dvs:List V) (E:XK) (t:TA):TE:=fun σ H Q => t σ H fun vs H1 => sp (vs ++ dvs) H1 Q E
noncomputable def Binds (K:PySem.W.Frag) (fd:FuncData) (ps:List Str) (ds:List Value):Prop :=
  ∀ (s:Shared) (us:List Value),K.In s.heap -> (us ++ ds).length = ps.length -> BindsTo s fd ⟨us,[]⟩ (ps.zip (us ++ ds))
theorem Binds.all {K:PySem.W.Frag} {fd:FuncData} {ps:List Str} (h:∀ us:List Value,us.length = ps.length -> bindArgs fd ⟨us,[]⟩ = pure (ps.zip us)):Binds K fd ps []:=fun s us _ hl => by
  rw [List.append_nil] at hl ⊢
  exact .of_eq (h us hl)
noncomputable def Passes (CX:CXT) (X:Cx) (E:XK):Prop:=∀ (pins:List (Addr×Obj)) (σ:St) (H:Hp) (s:Shared) (e:Value) (s':Shared),Inv X pins σ H s -> CX X.stack H s E e s' -> X.xe e s'
section
variable {X:Cx} {CX:CXT} {k:Nat} {f C:Addr} {fd:FuncData} {ps:List Str} {sp:Sp} {dvs:List V} {ds:List Value} {E:XK} {x m:Str} {p pos apos:Pos} {e o:Expr} {es:List Expr} {ta:TE} {t:TA}
theorem run_fn {pins:List (Addr×Obj)} {σ:St} {H:Hp} {s:Shared} {Q:VK} {us:List Value} {vs:List V} (F:FnOk X.prog X.w X.K X.mg X.base CX k f fd ps sp) (hr:Room k X.A) (hb:Binds X.K fd ps ds) (hd:Vals dvs ds) (hx:Passes CX X E)
    (I:Inv X pins σ H s) (r:Vals vs us) (h:sp (vs ++ dvs) H Q E):wpAny (model X.prog X.w) X.A (call (.ref f) us) (EP X pins σ Q) X.xe s:=by
  have r2:Vals (vs ++ dvs) (us ++ ds):=r.append hd
  have hl:(us ++ ds).length = ps.length:=by rw [← r2.length]; exact F.len _ _ _ _ h
  refine wpAny_call (codeAny_mono (F.run X.A X.stack s H ⟨us,[]⟩ (us ++ ds) (vs ++ dvs) Q E hr I.env0 (hb s us I.kIn hl) r2 h) fun r s' hq => ?_)
  cases r with
  | error e => exact hx pins σ H s e s' I hq
  | ok fl =>
    cases fl with
    | ret u => exact I.after hq
    | next => exact False.elim hq
    | brk => exact False.elim hq
    | cont => exact False.elim hq
theorem pe_call (F:FnOk X.prog X.w X.K X.mg X.base CX k f fd ps sp) (hr:Room k X.A) (hg:Gl X x) (hm:X.mg x = some (.ref f)) (hk:PySem.W.keepIn X.K (.ref f) = true) (hb:Binds X.K fd ps ds) (hd:Vals dvs ds) (hx:Passes CX X E)
    (ha:PA X (e :: es) t) (hdb:(x == ("__debug__":Str)) = false:=by decide) (he:starEach (e :: es) X.env = (false,eval e X.env) :: starEach es X.env:=by rfl) (hpl:(backTo pos (starEach es X.env)).any (·.1) = false:=by rfl) :
    PE X (.Call (.Name x p) (e :: es) [] pos) (tCall sp dvs E t):=by
  intro pins s σ H Q I h
  refine wpAny_Call_Name_kw (ld_glob I hg hm ?_ hdb)
  refine PySem.W.callWith_K (h₀:=X.base) I.ok.mod.kin hk (thn (ha pos pins s σ H _ I h) fun us s1 ⟨vs,H1,I1,r,q⟩ => ⟨I1.kIn,?_⟩) he hpl
  exact run_fn F hr hb hd hx I1 r q
end
section
variable {X:Cx} {CX:CXT} {k:Nat} {f C:Addr} {fd:FuncData} {ps ks:List Str} {sp:Sp} {E:XK} {x m:Str} {p pos apos kpos:Pos} {e o:Expr} {es:List Expr} {kws:List Keyword} {te ta:TE} {t tk:TA} {nm:Option Str}
structure KBinds (K:PySem.W.Frag) (fd:FuncData) (ps ks:List Str) (g:List Value -> List Value -> List Value) (gV:List V -> List V -> List V):Prop where
  to:∀ (s:Shared) (us ws:List Value),K.In s.heap -> (g us ws).length = ps.length -> BindsTo s fd ⟨us,ks.zip ws⟩ (ps.zip (g us ws))
  rel:∀ {vs:List V} {us:List Value} {zs:List V} {ws:List Value},Vals vs us -> Vals zs ws -> Vals (gV vs zs) (g us ws)
noncomputable def tCallK (sp:Sp) (gV:List V -> List V -> List V) (E:XK) (t tk:TA):TE:=fun σ H Q => t σ H fun vs H1 => tk σ H1 fun zs H2 => sp (gV vs zs) H2 Q E
variable {g:List Value -> List Value -> List Value} {gV:List V -> List V -> List V}
end
structure FnScope (N P:List Str) (sc:Scope):Prop where
  kind:sc.kind = .function
  co:sc.isCoroutine = false
  gen:sc.isGenerator = false
  nd:N.Nodup
  pre:N.take P.length = P
  par:∀ x ∈ P,sc.names.lookup x = some .local ∨ sc.names.lookup x = some .cell
  nofree:∀ y ∈ sc.names,y.2 ≠ .free
theorem bindL_out {kindOf:Str -> Option NameKind} {x:Str}:∀ {binds:List (Str×Value)} {m:Str -> Option Value},(∀ v,(x,v) ∉ binds) -> bindL kindOf binds m x = m x
  | [],_,_ => rfl
  | (n,v) :: r,m,h => by
    unfold bindL
    rw [bindL_out fun w hw => h w (List.mem_cons_of_mem _ hw)]
    split
    . have:x ≠ n:=by rintro rfl; exact h v List.mem_cons_self
      simp [this]
    . rfl
theorem bindC_out {kindOf:Str -> Option NameKind} {x:Str}:∀ {binds:List (Str×Value)} {m:Str -> Option Value},(∀ v,(x,v) ∉ binds) -> bindC kindOf binds m x = m x
  | [],_,_ => rfl
  | (n,v) :: r,m,h => by
    unfold bindC
    rw [bindC_out fun w hw => h w (List.mem_cons_of_mem _ hw)]
    split
    . rfl
    . have:x ≠ n:=by rintro rfl; exact h v List.mem_cons_self
      simp [this]
theorem bindL_get {kindOf:Str -> Option NameKind} {x:Str} {v:Value}:∀ {P:List Str} {vs:List Value} {i:Nat} {m:Str -> Option Value},P.Nodup -> P[i]? = some x -> vs[i]? = some v -> kindOf x = some .local ->
    bindL kindOf (P.zip vs) m x = some v
  | [],_,_,_,_,h,_,_ => by simp at h
  | _ :: _,[],_,_,_,_,h,_ => by simp at h
  | p :: P,w :: vs,0,m,nd,h1,h2,hk => by
    simp at h1 h2; subst h1; subst h2
    show bindL kindOf ((p,w) :: P.zip vs) m p = _
    unfold bindL
    rw [bindL_out fun v hv => (List.nodup_cons.mp nd).1 (List.of_mem_zip hv).1,if_pos hk]
    simp
  | p :: P,w :: vs,i + 1,m,nd,h1,h2,hk => by
    show bindL kindOf ((p,w) :: P.zip vs) m x = _
    unfold bindL
    exact bindL_get (i:=i) (List.nodup_cons.mp nd).2 (by simpa using h1) (by simpa using h2) hk
theorem bindC_get {kindOf:Str -> Option NameKind} {x:Str} {v:Value}:∀ {P:List Str} {vs:List Value} {i:Nat} {m:Str -> Option Value},P.Nodup -> P[i]? = some x -> vs[i]? = some v -> kindOf x ≠ some .local ->
    bindC kindOf (P.zip vs) m x = some v
  | [],_,_,_,_,h,_,_ => by simp at h
  | _ :: _,[],_,_,_,_,h,_ => by simp at h
  | p :: P,w :: vs,0,m,nd,h1,h2,hk => by
    simp at h1 h2; subst h1; subst h2
    show bindC kindOf ((p,w) :: P.zip vs) m p = _
    unfold bindC
    rw [bindC_out fun v hv => (List.nodup_cons.mp nd).1 (List.of_mem_zip hv).1,if_neg hk]
    simp
  | p :: P,w :: vs,i + 1,m,nd,h1,h2,hk => by
    show bindC kindOf ((p,w) :: P.zip vs) m x = _
    unfold bindC
    exact bindC_get (i:=i) (List.nodup_cons.mp nd).2 (by simpa using h1) (by simpa using h2) hk
noncomputable def start (N:List Str) (vs:List V):St:=vs.map some ++ List.replicate (N.length - vs.length) none
noncomputable def cxOf (CX:CXT) (P:Program) (w:World) (K:PySem.W.Frag) (mg:Str -> Option Value) (base:Heap) (N:List Str) (qual:Str) (scope:Scope) (f:Addr) (cd:Value) (A:Around) (outer:List Env) (s:Shared) (H:Hp) (E:XK):Cx where
  prog:=P
  w:=w
  K:=K
  mg:=mg
  base:=base
  A:=A.deeper (envOfC qual scope s.heap.objs.size f cd)
  N:=N
  s₀:=s
  H₀:=H
  env:=envOfC qual scope s.heap.objs.size f cd
  outer:=outer
  stack:=envOfC qual scope s.heap.objs.size f cd :: outer
  ex:=[]
  calm:=true
  fn:=fun _ => true
  pn:=[]
  xe:=fun e s' => wpAny (model P w) (A.deeper (envOfC qual scope s.heap.objs.size f cd)) (leaving (envOfC qual scope s.heap.objs.size f cd) e) (fun _ s'' => CX outer H s E e s'') (fun e' s'' => CX outer H s E e' s'') s'
theorem cell_has {sc:Scope} {n:Nat} {x:Str} (h:sc.names.lookup x = some .cell):∃ c,(cellsFrom n sc.names []).lookup x = some c:=by
  have q:=PySem.W.cellsFrom_some sc.names n [] (.inl h)
  exact Option.isSome_iff_exists.mp q
theorem inv_start {CX:CXT} {P:Program} {w:World} {K:PySem.W.Frag} {mg:Str -> Option Value} {base:Heap} {N ps:List Str} {qual:Str} {scope:Scope} {f:Addr} {cd:Value} {A:Around} {outer:List Env} {s s1:Shared} {H:Hp} {E:XK} {us:List Value} {vs:List V}
    (S:FnScope N ps scope) (hd:A.handled = none) (e0:Env0 P w K mg base A outer s H) (hl:vs.length = ps.length) (r:Vals vs us)
    (x:InCallC s s.heap.objs.size (bindL (envOfC qual scope s.heap.objs.size f cd).kindOf (ps.zip us) fun _ => none) (cellsFrom (s.heap.objs.size + 1) scope.names []) (bindC (envOfC qual scope s.heap.objs.size f cd).kindOf (ps.zip us) fun _ => none) s1) :
    Inv (cxOf CX P w K mg base N qual scope f cd A outer s H E) [] (start N vs) H s1:=by
  have hpl:ps.length <= N.length:=by have:=congrArg List.length S.pre; rw [List.length_take] at this; omega
  obtain ⟨h1,tk,rfl,hk⟩:=x.done
  have noA:∀ b:Addr,b ∉ (cxOf CX P w K mg base N qual scope f cd A outer s H E).ex:=fun b z => absurd (show b ∈ ([]:List Addr) from z) (by simp)
  refine ⟨⟨e0.mod,S.kind,rfl,rfl,Nat.le_refl _,fun y z c h1 h2 => ?_,fun y hy => ?_,fun y c _ h => ?_,fun _ => hd,Around.frames_deeper e0.frames,.inr ⟨rfl,rfl⟩,fun b z => absurd z (noA b),e0.bs,e0.bsz,fun b _ _ => noA b,fun b z => absurd z (noA b),e0.funs,e0.frf⟩,
    rfl,e0.bare,Un.kept hk,⟨_,x.toInCall.ns,fun i y v h1 h2 h3 => ?_⟩,fun y c h => ⟨_,x.cell y c h⟩,e0.hok.fresh (Nat.le_refl _),fun y c h => ?_,fun p hp => absurd (show p ∈ ([]:List (Addr×Obj)) from hp) (by simp),e0.hok.kept hk,?_⟩
  . exact name_of_addr x.apart (PySem.mem_of_lookup h1) (PySem.mem_of_lookup h2)
  . have hy:scope.names.lookup y = some .cell ∨ scope.names.lookup y = some .free:=hy
    rcases hy with hy | hy
    . exact cell_has hy
    . exact absurd rfl (S.nofree _ (PySem.mem_of_lookup hy))
  . exact Nat.le_of_lt (x.above y c (PySem.mem_of_lookup h))
  . have hi:i < vs.length:=by
      unfold start at h2
      by_cases hi:i < vs.length
      . exact hi
      . rw [List.getElem?_append_right (by simpa using hi)] at h2
        rw [List.getElem?_replicate] at h2
        split at h2 <;> cases h2
    have ha:vs[i]? = some v:=by
      unfold start at h2
      rw [List.getElem?_append_left (by simpa using hi),List.getElem?_map] at h2
      cases e:vs[i]? with
      | none => rw [e] at h2; cases h2
      | some a => rw [e] at h2; cases h2; rfl
    obtain ⟨u,hu,rv⟩:=r.get ha
    have hp:ps[i]? = some y:=by
      rw [← S.pre,List.getElem?_take_of_lt (by omega)]; exact h1
    have ndP:ps.Nodup:=by rw [← S.pre]; exact S.nd.sublist (List.take_sublist _ _)
    refine ⟨u,rv,?_⟩
    rcases S.par y (List.mem_of_getElem? hp) with k | k
    . exact .inl ⟨k,bindL_get ndP hp hu k⟩
    . obtain ⟨c,e⟩:=cell_has (n:=s.heap.objs.size + 1) k
      refine .inr ⟨.inl k,c,e,?_⟩
      have q:=x.cell y c e
      rw [bindC_get ndP hp hu (by show scope.names.lookup y ≠ _; rw [k]; decide)] at q
      exact q
  . exact e0.hok.fresh (Nat.le_of_lt (x.above y c (PySem.mem_of_lookup h)))
  . unfold start
    show _ = N.length
    rw [List.length_append,List.length_map,List.length_replicate]
    omega
theorem fn_of {CX:CXT} {P:Program} {w:World} {K:PySem.W.Frag} {mg:Str -> Option Value} {base:Heap} {k:Nat} {f:Addr} {name qual:Str} {params:Arguments} {body:List Stmt} {scope:Scope} {dV kV doc pm cdv ct oc:Value} {an od:Option Addr}
    {osl:Array (Option Value)} {N ps:List Str} {sp:Sp} (lk:K.lookup f = some ⟨oc,od,.func (PySem.W.fnOf name qual params body scope dV kV doc pm an cdv ct),osl⟩) (hcd:PySem.W.codeIn K cdv qual = true) (S:FnScope N ps scope)
    (len:∀ vs H Q E,sp vs H Q E -> vs.length = ps.length)
    (hbody:∀ (A:Around) (outer:List Env) (s:Shared) (H:Hp) (vs:List V) (Q:VK) (E:XK),Room k (A.deeper (envOfC qual scope s.heap.objs.size f cdv)) -> sp vs H Q E ->
      ∃ t,PSs (cxOf CX P w K mg base N qual scope f cdv A outer s H E) body t /\ t { nx:=fun _ H' => Q .non H',rt:=Q } (start N vs) H) :
    FnOk P w K mg base CX (k + 1) f (PySem.W.fnOf name qual params body scope dV kV doc pm an cdv ct) ps sp:=by
  refine ⟨len,fun A outer s H args us vs Q E hr e0 hb r hsp => ?_⟩
  have hl:=len _ _ _ _ hsp
  have KX:K.In s.heap:=e0.mod.kin.keeps fun b o e => (e0.bs b o e).1
  have lim:s.heap.NoLimit:=e0.mod.nolimit.keeps fun b o e => (e0.bs b o e).1
  have hkind:∀ y ∈ ps.zip us,scope.names.lookup y.1 = some .local ∨ (scope.names.lookup y.1 = some .cell /\ ((cellsFrom (s.heap.objs.size + 1) scope.names []).lookup y.1).isSome = true):=fun ⟨n,v⟩ hy => by
    rcases S.par n (List.of_mem_zip hy).1 with q | q
    . exact .inl q
    . exact .inr ⟨q,PySem.W.cellsFrom_some _ _ _ (.inl q)⟩
  refine codeAny_call_function hr.depth (KX _ _ lk) rfl S.co S.gen rfl (PySem.W.codeRec_of KX hcd) (hb _ _ _ _ ?_)
  refine wpAny_newFunctionEnv_cells S.kind hkind fun env he s1 x => ?_
  subst he
  refine ⟨lim.keeps x.toInCall.keep,codeAny_func ?_⟩
  obtain ⟨t,ht,hq⟩:=hbody A outer s H vs Q E (hr.deeper _) hsp
  have I:Inv (cxOf CX P w K mg base N qual scope f cdv A outer s H E) [] (start N vs) H s1:=inv_start S hr.hd e0 hl r x
  refine wpAny_mono (ht [] s1 (start N vs) H _ I hq) (fun fl s' hs => ?_) fun e s' hs => hs
  have fin:∀ {σ':St} {H':Hp} {v:V} {u:Value},Inv (cxOf CX P w K mg base N qual scope f cdv A outer s H E) [] σ' H' s' -> RelV v u -> Q v H' -> CE outer P w H s Q u s' :=
    fun {σ' H' v u} J rv q => ⟨v,H',J.os,J.bare,J.base,J.hok,rv,q⟩
  cases fl with
  | ret u =>
    obtain ⟨v,σ',H',J,rv,q⟩:=hs
    exact fin J rv q
  | next =>
    obtain ⟨σ',H',J,q⟩:=hs
    exact fin (v:=V.non) (u:=Value.none) J rfl q
  | brk =>
    obtain ⟨_,_,_,q⟩:=hs
    exact False.elim q
  | cont =>
    obtain ⟨_,_,_,q⟩:=hs
    exact False.elim q
end L2
namespace L2
open PySem PySem.Spec PyProof.Rows
section
variable {X:Cx} {x:Str} {p pos:Pos} {e:Expr} {es:List Expr} {t:TA} {id T:String} {r:List V -> Hp -> VK -> Prop}
noncomputable def tCB (r:List V -> Hp -> VK -> Prop) (t:TA):TE:=fun σ H Q => t σ H fun vs H1 => r vs H1 Q
theorem pe_callB (hc:CallR X (.builtin id) r) (hg:Gl X x) (hm:X.mg x = none) (hv:bootBuiltins x = some (.builtin id)) (ha:PA X (e :: es) t) (hn:x ≠ "__name__":=by decide) (hdb:(x == ("__debug__":Str)) = false:=by decide)
    (he:starEach (e :: es) X.env = (false,eval e X.env) :: starEach es X.env:=by rfl) (hpl:(backTo pos (starEach es X.env)).any (·.1) = false:=by rfl):PE X (.Call (.Name x p) (e :: es) [] pos) (tCB r t):=by
  intro pins s σ H Q I h
  refine wpAny_Call_Name_kw (ld_blt I hg hm hv ?_ hn hdb)
  exact PyProof.Rows.callWith_builtin1 (thn (ha pos pins s σ H _ I h) fun us s1 ⟨vs,H1,I1,r1,q1⟩ => hc pins s1 σ H1 vs us Q I1 r1 q1) he hpl
theorem pe_callTy (hc:CallR X (.type T) r) (hg:Gl X x) (hm:X.mg x = none) (hv:bootBuiltins x = some (.type T)) (ha:PA X (e :: es) t) (hn:x ≠ "__name__":=by decide) (hdb:(x == ("__debug__":Str)) = false:=by decide)
    (he:starEach (e :: es) X.env = (false,eval e X.env) :: starEach es X.env:=by rfl) (hpl:(backTo pos (starEach es X.env)).any (·.1) = false:=by rfl):PE X (.Call (.Name x p) (e :: es) [] pos) (tCB r t):=by
  intro pins s σ H Q I h
  refine wpAny_Call_Name_kw (ld_blt I hg hm hv ?_ hn hdb)
  exact PyProof.Rows.callWith_type1 (thn (ha pos pins s σ H _ I h) fun us s1 ⟨vs,H1,I1,r1,q1⟩ => hc pins s1 σ H1 vs us Q I1 r1 q1) he hpl
end
end L2
namespace HT
open PySem PyProof.Rows
section
open PySem.SeqAt
open PySem.AutoSeq1 (wpAny_loadPart')
open PySem.MeetsSeq PySem.MeetsSeq2 PySem.MeetsSeq3
end
section
variable {prog:Program} {w:World} {A:Around} {E:Value -> Shared -> Prop} {s:Shared}
theorem cat_tup {t b:Addr} {vs ws:List Value} {Q:Value -> Shared -> Prop} (ht:IsTup s.heap t vs.toArray) (hb:IsTup s.heap b ws.toArray) (hv:vs ≠ [])
    (h1:ws = [] -> Q (.ref t) s) (h2:ws ≠ [] -> Q (.ref s.heap.objs.size) { s with heap:=s.heap.push { cls:=.type "tuple",data:=.seq (vs ++ ws).toArray } })
    (hsz:vs.length + ws.length <= sizeLine):wpAny (model prog w) A (binaryOp .Add (.ref t) (.ref b)) Q E s:=by
  obtain ⟨⟨cls,dd,data,sl⟩,ho,hc,n,hd⟩:=id ht
  obtain ⟨⟨cls2,dd2,data2,sl2⟩,ho2,hc2,n2,hd2⟩:=id hb
  simp only at hc hd hc2 hd2
  subst hc hd hc2 hd2
  have e:vs.toArray ++ ws.toArray = (vs ++ ws).toArray:=by simp
  by_cases hw:ws = []
  . exact concat_meets ⟨_,ho,rfl⟩ ⟨_,ho2,rfl⟩ noFill_tuple_add seq_tuple_add PySem.F.slot_tuple_add PySem.F.entry_tuple_add (PySem.F.args_tuple_add_2 _ _)
      (tuple_addW1 t b vs.toArray ws.toArray n n2 dd dd2 sl sl2 (by simpa using hv) (by simp [hw])) ⟨ho,ho2,h1 hw⟩
  . refine concat_meets ⟨_,ho,rfl⟩ ⟨_,ho2,rfl⟩ noFill_tuple_add seq_tuple_add PySem.F.slot_tuple_add PySem.F.entry_tuple_add (PySem.F.args_tuple_add_2 _ _)
      (tuple_addW2 t b vs.toArray ws.toArray n n2 dd dd2 sl sl2 (by simpa using hv) (by simpa using hw) (by rw [List.size_toArray,List.size_toArray]; exact hsz)) ⟨ho,ho2,?_⟩
    rw [e]
    exact h2 hw
end
end HT
namespace L2
open PySem PySem.Spec PyProof.Rows
noncomputable abbrev TO:=St -> Hp -> (Option Int -> Hp -> Prop) -> Prop
noncomputable def tNoPart:TO:=fun _ H Q => Q none H
noncomputable def tPart (t:TE):TO:=fun σ H Q => t σ H fun x H1 => ∃ i,x = .int i /\ Q (some i) H1
section
variable {X:Cx} {e:Expr} {te:TE} {lo hi:Option Expr} {tl th:TO} {pos p2:Pos}
noncomputable def SlR (X:Cx) (r:V -> Option Int -> Option Int -> Hp -> VK -> Prop):Prop :=
  ∀ (pins:List (Addr×Obj)) (s:Shared) (σ:St) (H:Hp) (x:V) (v vl vu:Value) (lo hi:Option Int) (sl:Addr) (Q:VK),Inv X pins σ H s -> RelV x v -> s.heap.IsSliceOf sl vl vu .none -> IsPart vl lo -> IsPart vu hi -> r x lo hi H Q ->
    ∃ T id,typeLookup (.type T) "__getitem__" = pure (some (.builtin id)) /\ s.TypeIs v T /\ wpAny (model X.prog X.w) X.A (getItem v (.ref sl)) (EP X pins σ Q) X.xe s
theorem SlR.or {r r':V -> Option Int -> Option Int -> Hp -> VK -> Prop} (h:SlR X r) (h':SlR X r'):SlR X (fun x lo hi H Q => r x lo hi H Q ∨ r' x lo hi H Q):=by
  intro pins s σ H x v vl vu lo hi sl Q I rx hs pl pu q
  rcases q with q | q
  . exact h pins s σ H x v vl vu lo hi sl Q I rx hs pl pu q
  . exact h' pins s σ H x v vl vu lo hi sl Q I rx hs pl pu q
noncomputable def tSl (r:V -> Option Int -> Option Int -> Hp -> VK -> Prop) (te:TE) (tl th:TO):TE:=fun σ H Q => te σ H fun x H1 => tl σ H1 fun l H2 => th σ H2 fun u H3 => r x l u H3 Q
noncomputable def rCatT (K:PySem.W.Frag):R2:=fun x y H Q => ∃ a b xs ys,x = .ref a /\ y = .ref b /\ SqT K H a xs /\ SqT K H b ys /\ xs ≠ [] /\ xs.length + ys.length <= sizeLine /\
  (ys = [] -> Q (.ref a) H) /\ (ys ≠ [] -> ∀ p,H p = none -> Q (.ref p) (upd H p (.tup (xs ++ ys))))
theorem Vals.nil_iff {xs:List V} {us:List Value} (r:Vals xs us):us = [] ↔ xs = []:=by
  cases r with
  | nil => simp
  | cons _ _ => simp
theorem op_catT:OpR X (binaryOp .Add) (rCatT X.K):=by
  intro pins s σ H x y v u Q I rx ry h
  obtain ⟨a,b,xs,ys,rfl,rfl,ha,hb,hx,hz,q1,q2⟩:=h
  cases rx
  cases ry
  obtain ⟨its,r1,p1,_⟩:=I.tuple ha
  obtain ⟨its2,r2,p2,_⟩:=I.tuple hb
  refine HT.cat_tup p1 p2 (fun z => hx (r1.nil_iff.mp z)) (fun z => ⟨.ref a,H,I,rfl,q1 (r2.nil_iff.mp z)⟩) (fun z => ?_) (by rw [← r1.length,← r2.length]; exact hz)
  refine ⟨.ref s.heap.objs.size,_,I.laid (t':=s.toks) (o:=.tup (xs ++ ys)) (fun b ob q => Heap.get?_push_of_some _ q) (Nat.le_refl _) ?_,rfl,q2 (fun w => z (r2.nil_iff.mpr w)) _ (I.hok.fresh (Nat.le_refl _))⟩
  exact ⟨⟨by rw [List.length_append]; exact hz,_,Heap.get?_push_size _ rfl,rfl⟩,_,r1.append r2,IsTup.new _ _⟩
end
end L2
namespace L2
open PySem PySem.Spec PyProof.Rows
noncomputable def ixN (n:Nat) (i:Int):Option Nat:=if 0 <= i then (if i < n then some i.toNat else none) else if -(n:Int) <= i then some (i + n).toNat else none
noncomputable def atI {α:Type} (xs:List α) (i:Int):Option α:=(ixN xs.length i).bind fun j => xs[j]?
theorem ixN_seq {n:Nat} {i:Int} {j:Nat} (h:ixN n i = some j):seqIndex? i n = some j /\ j < n /\ -(n:Int) <= i /\ i < n:=by
  unfold ixN at h
  by_cases h0:0 <= i
  . rw [if_pos h0] at h
    by_cases h1:i < n
    . rw [if_pos h1] at h
      have e:i.toNat = j:=Option.some.inj h
      exact ⟨by rw [seqIndex_of h0 h1,e],by omega,by omega,h1⟩
    . rw [if_neg h1] at h; cases h
  . rw [if_neg h0] at h
    by_cases h1:-(n:Int) <= i
    . rw [if_pos h1] at h
      have e:(i + n).toNat = j:=Option.some.inj h
      exact ⟨by rw [seqIndex_neg (by omega) h1,e],by omega,h1,by omega⟩
    . rw [if_neg h1] at h; cases h
theorem atI_get {α:Type} {xs:List α} {i:Int} {v:α} (h:atI xs i = some v):∃ j,seqIndex? i xs.length = some j /\ xs[j]? = some v /\ j < xs.length /\ -(xs.length:Int) <= i /\ i < xs.length:=by
  unfold atI at h
  cases e:ixN xs.length i with
  | none => rw [e] at h; cases h
  | some j =>
    rw [e] at h
    obtain ⟨h1,h2,h3,h4⟩:=ixN_seq e
    exact ⟨j,h1,h,h2,h3,h4⟩
theorem atI_nat {α:Type} {xs:List α} {j:Nat} {v:α} (h:xs[j]? = some v):atI xs (j:Int) = some v:=by
  have hj:j < xs.length:=(List.getElem?_eq_some_iff.mp h).1
  have e:ixN xs.length (j:Int) = some j:=by
    unfold ixN
    rw [if_pos (by omega),if_pos (by omega)]; simp
  unfold atI; rw [e]; exact h
theorem atI_last {α:Type} (xs:List α) (v:α):atI (xs ++ [v]) (-1) = some v:=by
  have hl:(xs ++ [v]).length = xs.length + 1:=by simp
  have e:ixN (xs ++ [v]).length (-1) = some xs.length:=by
    unfold ixN
    rw [hl,if_neg (by decide),if_pos (by omega)]
    congr 1
    omega
  unfold atI
  rw [e]
  show (xs ++ [v])[xs.length]? = some v
  simp
noncomputable def PlainIx (b:Expr):Prop:=∀ o i,subscripted b false o i = operate [o,i] (getItem o i)
noncomputable def IxR (X:Cx) (r:R2):Prop :=
  ∀ (value slice:Expr) (pins:List (Addr×Obj)) (s:Shared) (σ:St) (H:Hp) (x y:V) (v u:Value) (Q:VK),Inv X pins σ H s -> RelV x v -> RelV y u -> r x y H Q ->
    subscripted slice false v u = operate [v,u] (getItem v u) -> wpAny (model X.prog X.w) X.A (subscriptTail value slice v u) (EP X pins σ Q) X.xe s
noncomputable def MtR (X:Cx) (id:String) (r:V -> List V -> Hp -> VK -> Prop):Prop :=
  ∀ (pins:List (Addr×Obj)) (s:Shared) (σ:St) (H:Hp) (x:V) (xs:List V) (v:Value) (us:List Value) (Q:VK),Inv X pins σ H s -> RelV x v -> Vals xs us -> r x xs H Q ->
    wpAny (model X.prog X.w) X.A (call (.builtin id) (v :: us)) (EP X pins σ Q) X.xe s
section
variable {X:Cx} {a b:Expr} {ta tb:TE} {pos:Pos}
theorem IxR.or {r r':R2} (h:IxR X r) (h':IxR X r'):IxR X (fun x y H Q => r x y H Q ∨ r' x y H Q):=by
  intro value slice pins s σ H x y v u Q I rx ry q hs
  rcases q with q | q
  . exact h value slice pins s σ H x y v u Q I rx ry q hs
  . exact h' value slice pins s σ H x y v u Q I rx ry q hs
theorem MtR.or {id:String} {r r':V -> List V -> Hp -> VK -> Prop} (h:MtR X id r) (h':MtR X id r'):MtR X id (fun x xs H Q => r x xs H Q ∨ r' x xs H Q):=by
  intro pins s σ H x xs v us Q I rx rs q
  rcases q with q | q
  . exact h pins s σ H x xs v us Q I rx rs q
  . exact h' pins s σ H x xs v us Q I rx rs q
theorem pe_ix {r:R2} (hr:IxR X r) (ha:PE X a ta) (hb:PE X b tb) (hs:PlainIx b):PE X (.Subscript a b pos) (tOp r ta tb):=by
  intro pins s σ H Q I h
  exact Subscript_ (binT ha hb I h fun v u s2 x y H2 I2 rx ry q => hr a b pins s2 σ H2 x y v u Q I2 rx ry q (hs _ _))
noncomputable def rIxL (K:PySem.W.Frag):R2:=fun x y H Q => ∃ p xs i v,x = .ref p /\ y = .int i /\ SqL K H p xs /\ atI xs i = some v /\ Q v H
noncomputable def rIxT (K:PySem.W.Frag):R2:=fun x y H Q => ∃ p xs i v,x = .ref p /\ y = .int i /\ SqT K H p xs /\ atI xs i = some v /\ Q v H
noncomputable def rIxS:R2:=fun x y H Q => ∃ z i c,x = .str z /\ y = .int i /\ z.length <= sizeLine /\ atI z.cps.toList i = some c /\ Q (.str ⟨#[c]⟩) H
theorem ix_list:IxR X (rIxL X.K):=by
  intro value slice pins s σ H x y v u Q I rx ry h hs
  obtain ⟨p,xs,i,z,rfl,rfl,hq,he,q⟩:=h
  cases rx
  obtain ⟨t,rfl⟩:=ry
  obtain ⟨its,r,pl,hz⟩:=I.list hq
  obtain ⟨j,h1,h2,h3,h4,h5⟩:=atI_get he
  obtain ⟨w,ew,rw'⟩:=r.get h2
  have hl:=r.length
  have hn:=line63
  have fin:EP X pins σ Q w s:=⟨z,H,I,rw',q⟩
  by_cases h0:0 <= i
  . have hj:i.toNat = j:=by
      rw [seqIndex_of h0 h5] at h1
      exact Option.some.inj h1
    exact item_listR pl.isList h0 (by omega) (by rw [hj]; simpa using ew) fin hs
  . have hj:(i + (its.toArray.size:Int)).toNat = j:=by
      rw [seqIndex_neg (by omega) h4] at h1
      rw [List.size_toArray,← hl]
      exact Option.some.inj h1
    exact subscriptTail_builtinR (x:=w) pl.isList.typeIs slot_list_getitem.lookup
      (wpAny_getItem_list_neg (Q:=fun r s' => r = w /\ EP X pins σ Q r s') pl.isList (by omega) (by rw [List.size_toArray] <;> omega) (by omega) (by rw [hj]; simpa using ew) ⟨rfl,fin⟩) hs
theorem ix_tup:IxR X (rIxT X.K):=by
  intro value slice pins s σ H x y v u Q I rx ry h hs
  obtain ⟨p,xs,i,z,rfl,rfl,hq,he,q⟩:=h
  cases rx
  obtain ⟨t,rfl⟩:=ry
  obtain ⟨its,r,pl,hz⟩:=I.tuple hq
  obtain ⟨j,h1,h2,h3,h4,h5⟩:=atI_get he
  obtain ⟨w,ew,rw'⟩:=r.get h2
  have hl:=r.length
  have hn:=line63
  have fin:EP X pins σ Q w s:=⟨z,H,I,rw',q⟩
  exact subscriptTail_builtinR (x:=w) pl.typeIs slot_tuple_getitem.lookup
    (getItem_tuple (j:=j) (Q:=fun r s' => r = w /\ EP X pins σ Q r s') pl (by omega) (by omega) (by rw [List.size_toArray,← hl]; exact h1) (by simpa using ew) ⟨rfl,fin⟩) hs
theorem ix_str:IxR X rIxS:=by
  intro value slice pins s σ H x y v u Q I rx ry h hs
  obtain ⟨z,i,c,rfl,rfl,hz,he,q⟩:=h
  obtain ⟨t,rfl⟩:=rx
  obtain ⟨t',rfl⟩:=ry
  obtain ⟨j,h1,h2,h3,h4,h5⟩:=atI_get he
  have hl:z.cps.toList.length = z.length:=by simp [Str.length]
  rw [hl] at h1 h4 h5
  have hn:=line63
  exact tail_any (typeIs_str s z t) slot_str_getitem.lookup (getItem_str (c:=c) (by
    have e1:decide (i < -(2 ^ 63:Int)) = false:=decide_eq_false (by omega)
    have e2:decide (i ≥ 2 ^ 63) = false:=decide_eq_false (by omega)
    rw [e1,e2,Bool.or_false]) (by rw [h1]; simpa using h2) ⟨.str ⟨#[c]⟩,H,I.tok _,⟨_,rfl⟩,q⟩) hs
noncomputable def rIx (K:PySem.W.Frag):R2:=fun x y H Q => rIxL K x y H Q ∨ rIxT K x y H Q ∨ rIxS x y H Q
theorem ix_seq:IxR X (rIx X.K):=ix_list.or (ix_tup.or ix_str)
theorem Inv.lst {pins:List (Addr×Obj)} {σ:St} {H:Hp} {s:Shared} {p:Addr} {xs:List V} (I:Inv X pins σ H s) (h:H p = some (.lst xs)) :
    ∃ (its:List Value) (n:Nat),Vals xs its /\ s.heap.get? p = some { cls:=.type "list",data:=.seq its.toArray n } /\ xs.length <= sizeLine:=by
  obtain ⟨z,its,n,r,e⟩:=I.hok p _ h
  exact ⟨its,n,r,e,z⟩
noncomputable def flatV:V -> Bool
  | .non => true
  | .bl _ => true
  | .int _ => true
  | .str _ => true
  | _ => false
noncomputable def eqV:V -> V -> Bool
  | .non,.non => true
  | .bl a,.bl b => a == b
  | .bl a,.int b => (if a then 1 else 0) == b
  | .int a,.bl b => a == (if b then 1 else 0)
  | .int a,.int b => a == b
  | .str a,.str b => a == b
  | _,_ => false
theorem eqAt_V {A:Around} {s:Shared} {y x:V} {u v:Value} (ry:RelV y u) (rx:RelV x v) (fy:flatV y = true) (fx:flatV x = true):SeqAt.EqAt A s u v (eqV y x):=by
  cases y with
  | non =>
    cases ry
    cases x with
    | non => cases rx; exact SeqAt.EqAt.same _
    | bl b => cases rx; exact SeqAt.EqAt.none_bool b
    | int b => obtain ⟨t,rfl⟩:=rx; exact SeqAt.EqAt.none_int b t
    | str b => obtain ⟨t,rfl⟩:=rx; exact SeqAt.EqAt.none_str b t
    | _ => exact absurd (show false = true from fx) Bool.false_ne_true
  | bl a =>
    cases ry
    cases x with
    | non => cases rx; exact SeqAt.EqAt.bool_none a
    | bl b => cases rx; exact SeqAt.EqAt.bool_bool a b
    | int b => obtain ⟨t,rfl⟩:=rx; exact SeqAt.EqAt.bool_int a b t
    | str b => obtain ⟨t,rfl⟩:=rx; exact SeqAt.EqAt.bool_str a b t
    | _ => exact absurd (show false = true from fx) Bool.false_ne_true
  | int a =>
    obtain ⟨t',rfl⟩:=ry
    cases x with
    | non => cases rx; exact SeqAt.EqAt.int_none a t'
    | bl b => cases rx; exact SeqAt.EqAt.int_bool a t' b
    | int b => obtain ⟨t,rfl⟩:=rx; exact SeqAt.EqAt.int_int a t' b t
    | str b => obtain ⟨t,rfl⟩:=rx; exact SeqAt.EqAt.int_str a t' b t
    | _ => exact absurd (show false = true from fx) Bool.false_ne_true
  | str a =>
    obtain ⟨t',rfl⟩:=ry
    cases x with
    | non => cases rx; exact SeqAt.EqAt.str_none a t'
    | bl b => cases rx; exact SeqAt.EqAt.str_bool a t' b
    | int b => obtain ⟨t,rfl⟩:=rx; exact SeqAt.EqAt.str_int a t' b t
    | str b => obtain ⟨t,rfl⟩:=rx; exact SeqAt.EqAt.str_str a t' b t
    | _ => exact absurd (show false = true from fx) Bool.false_ne_true
  | _ => exact absurd (show false = true from fy) Bool.false_ne_true
noncomputable def eqU (x:V) (u:Value):Bool:=match u with
  | .none => eqV .non x
  | .bool b => eqV (.bl b) x
  | .int i _ => eqV (.int i) x
  | .str z _ => eqV (.str z) x
  | _ => false
theorem eqU_of {x y:V} {u:Value} (r:RelV y u) (f:flatV y = true):eqU x u = eqV y x:=by
  cases y with
  | non => cases r; rfl
  | bl b => cases r; rfl
  | int i => obtain ⟨t,rfl⟩:=r; rfl
  | str z => obtain ⟨t,rfl⟩:=r; rfl
  | _ => exact absurd (show false = true from f) Bool.false_ne_true
theorem any_eqU {x:V}:∀ {xs:List V} {us:List Value},Vals xs us -> xs.all flatV = true -> us.any (eqU x) = xs.any fun y => eqV y x
  | _,_,.nil,_ => rfl
  | y :: xs,u :: us,.cons r t,f => by
    rw [List.all_cons,Bool.and_eq_true] at f
    rw [List.any_cons,List.any_cons,eqU_of r f.1,any_eqU t f.2]
theorem mem_eqAt {A:Around} {s:Shared} {x:V} {v:Value} (rx:RelV x v) (fx:flatV x = true):∀ {xs:List V} {us:List Value},Vals xs us -> xs.all flatV = true -> ∀ u ∈ us,SeqAt.EqAt A s u v (eqU x u)
  | _,_,.nil,_ => fun u hu => by cases hu
  | y :: xs,u :: us,.cons r t,f => fun u' hu => by
    rw [List.all_cons,Bool.and_eq_true] at f
    rcases List.mem_cons.mp hu with rfl | hu
    . rw [eqU_of r f.1]; exact eqAt_V r rx f.1 fx
    . exact mem_eqAt rx fx t f.2 u' hu
noncomputable def inV (x:V) (xs:List V):Bool:=xs.any fun y => eqV y x
noncomputable def rIn (K:PySem.W.Frag) (neg:Bool):R2:=fun x y H Q => ∃ p xs,y = .ref p /\ (SqL K H p xs ∨ SqT K H p xs) /\ flatV x = true /\ xs.all flatV = true /\ Q (.bl (if neg then !inV x xs else inV x xs)) H
theorem op_notIn_seq:OpR X (compareOp .NotIn) (rIn X.K true):=by
  intro pins s σ H x y v u Q I rx ry h
  obtain ⟨p,xs,rfl,hq,fx,fs,q⟩:=h
  cases ry
  rcases hq with hq | hq
  . obtain ⟨its,r,pl,hz⟩:=I.list hq
    refine SeqAt.notIn_listAt (eqU x) pl.isList (fun w hw => mem_eqAt rx fx r fs w (by simpa using hw)) ⟨.bl _,H,I,rfl,?_⟩
    rw [show its.toArray.any (eqU x) = its.any (eqU x) by simp,any_eqU r fs]
    exact q
  . obtain ⟨its,r,pl,hz⟩:=I.tuple hq
    refine SeqAt.notIn_tupleAt (eqU x) pl (fun w hw => mem_eqAt rx fx r fs w (by simpa using hw)) ⟨.bl _,H,I,rfl,?_⟩
    rw [show its.toArray.any (eqU x) = its.any (eqU x) by simp,any_eqU r fs]
    exact q
theorem CallR.or {f:Value} {r r':List V -> Hp -> VK -> Prop} (h:CallR X f r) (h':CallR X f r'):CallR X f (fun xs H Q => r xs H Q ∨ r' xs H Q):=by
  intro pins s σ H xs us Q I rs q
  rcases q with q | q
  . exact h pins s σ H xs us Q I rs q
  . exact h' pins s σ H xs us Q I rs q
theorem call_list_of:CallR X (.type "list") (fun xs H Q => ∃ p ys,xs = [.ref p] /\ (SqL X.K H p ys ∨ SqT X.K H p ys) /\ ∀ l,H l = none -> Q (.ref l) (upd H l (.lst ys))):=by
  intro pins s σ H xs us Q I r h
  obtain ⟨p,ys,rfl,hq,q⟩:=h
  obtain ⟨u,rfl,rx⟩:=vals1 r
  cases rx
  have fin:∀ (its:List Value),Vals ys its -> ys.length <= sizeLine -> ∀ (h':Heap) (c':Nat),(∀ b o',s.heap.get? b = some o' -> h'.get? b = some o') ->
      h'.get? s.heap.objs.size = some { cls:=.type "list",dict:=none,data:=.seq its.toArray c',slots:=#[] } -> EP X pins σ Q (.ref s.heap.objs.size) { s with heap:=h' }:=fun its r' hz h' c' kp e =>
    ⟨.ref s.heap.objs.size,_,I.laid (t':=s.toks) kp (Nat.le_refl _) (show ObjOk X.prog X.w _ h' _ (.lst ys) from ⟨hz,its,c',r',e⟩),rfl,q _ (I.hok.fresh (Nat.le_refl _))⟩
  rcases hq with hq | hq
  . obtain ⟨its,r',pl,hz⟩:=I.list hq
    have hlen:=r'.length
    obtain ⟨o,ho,hc,n,hd⟩:=pl.isList
    exact call_list_seq p (.inl rfl) ho hc hd (fun h' c' kp e => fin its r' hz h' c' kp e) (by simp only [List.size_toArray] <;> omega)
  . obtain ⟨its,r',pl,hz⟩:=I.tuple hq
    have hlen:=r'.length
    obtain ⟨o,ho,hc,n,hd⟩:=pl
    exact call_list_seq p (.inr rfl) ho hc hd (fun h' c' kp e => fin its r' hz h' c' kp e) (by simp only [List.size_toArray] <;> omega)
noncomputable def tyV (K:PySem.W.Frag) (T:String) (x:V) (H:Hp):Prop:=match x with
  | .str _ => T = "str"
  | .int _ => T = "int"
  | .ref p => (T = "list" /\ ∃ xs,SqL K H p xs) ∨ (T = "tuple" /\ ∃ o,K.lookup p = some o /\ o.cls = .type "tuple" /\ o.dict = none) ∨
      (T = "dict" /\ ((∃ kvs,H p = some (.dK kvs)) ∨ ∃ kvs,H p = some (.dT kvs))) ∨ (T = "set" /\ ∃ S n,H p = some (.set S n))
  | _ => False
theorem tyV_is {pins:List (Addr×Obj)} {σ:St} {H:Hp} {s:Shared} {T:String} {x:V} {v:Value} (I:Inv X pins σ H s) (r:RelV x v) (ty:tyV X.K T x H) :
    s.TypeIs v T /\ ∀ a,v = .ref a -> ∃ ob,s.heap.get? a = some ob /\ ob.dict = none:=by
  cases x with
  | str z =>
    obtain ⟨t,rfl⟩:=r
    cases (show T = "str" from ty)
    exact ⟨typeIs_str s z t,fun _ e => nomatch e⟩
  | int i =>
    obtain ⟨t,rfl⟩:=r
    cases (show T = "int" from ty)
    exact ⟨typeIs_int s i t,fun _ e => nomatch e⟩
  | ref p =>
    cases r
    rcases ty with ⟨rfl,xs,hq⟩ | ⟨rfl,o,hk,hc,hd⟩ | ⟨rfl,hk⟩ | ⟨rfl,S,n,hk⟩
    . obtain ⟨its,_,pl,_⟩:=I.list hq
      refine ⟨pl.isList.typeIs,fun a e => ?_⟩
      cases e
      obtain ⟨o,n,e,c,hd,_⟩:=pl
      exact ⟨o,e,hd⟩
    . refine ⟨⟨o,I.kIn p o hk,hc⟩,fun a e => ?_⟩
      cases e
      exact ⟨o,I.kIn _ o hk,hd⟩
    . have z:∃ o,s.heap.get? p = some o /\ o.ExactDict:=by
        rcases hk with ⟨kvs,hk⟩ | ⟨kvs,hk⟩
        . obtain ⟨_,_,_,_,o,_,_,e,ex,_⟩:=I.hok p _ hk
          exact ⟨o,e,ex⟩
        . obtain ⟨_,_,_,_,o,_,_,e,ex,_⟩:=I.hok p _ hk
          exact ⟨o,e,ex⟩
      obtain ⟨o,e,ex⟩:=z
      refine ⟨⟨o,e,ex.1⟩,fun a e2 => ?_⟩
      cases e2
      exact ⟨o,e,ex.2.1⟩
    . obtain ⟨o,_,_,_,e,ex,_⟩:=I.hok p _ hk
      refine ⟨⟨o,e,ex.1⟩,fun a e2 => ?_⟩
      cases e2
      exact ⟨o,e,ex.2.1⟩
  | _ => exact False.elim ty
noncomputable def tBM0 (K:PySem.W.Frag) (T:String) (r:V -> List V -> Hp -> VK -> Prop) (to:TE):TE:=fun σ H Q => to σ H fun x H1 => tyV K T x H1 /\ r x [] H1 Q
noncomputable def tBM (K:PySem.W.Frag) (T:String) (r:V -> List V -> Hp -> VK -> Prop) (to:TE) (t:TA):TE:=fun σ H Q => to σ H fun x H1 => tyV K T x H1 /\ t σ H1 fun xs H2 => r x xs H2 Q
variable {o e:Expr} {es:List Expr} {to:TE} {t:TA} {name:Str} {apos cpos:Pos} {T id:String} {r:V -> List V -> Hp -> VK -> Prop}
theorem pe_bm0 (pa:PlainAttrs T) (slot:Slot T name id) (hty:typeOf (.builtin id) = pure (.type "method_descriptor")) (hm:MtR X id r) (ho:PE X o to)
    (hbase:attributeBase o name X.env (eval o X.env) = eval o X.env:=by rfl) (hline:(apos.endLine == cpos.line) = true:=by rfl):PE X (.Call (.Attribute o name apos) [] [] cpos) (tBM0 X.K T r to):=by
  intro pins s σ H Q I h
  refine wpAny_Call_method0_late hbase hline (thn (ho pins s σ H _ I h) fun v s1 ⟨x,H1,I1,r1,ty,q1⟩ => ?_)
  obtain ⟨h1,h2⟩:=tyV_is I1 r1 ty
  exact ⟨T,id,pa,slot,hty,h1,h2,Calls.callWith_builtin rfl (PySem.evalArgs_none (hm pins s1 σ H1 x [] v [] Q I1 r1 .nil q1))⟩
theorem pe_bm (pa:PlainAttrs T) (slot:Slot T name id) (hty:typeOf (.builtin id) = pure (.type "method_descriptor")) (hm:MtR X id r) (ho:PE X o to) (ha:PA X (e :: es) t)
    (hbase:attributeBase o name X.env (eval o X.env) = eval o X.env:=by rfl)
    (hfew:((backTo cpos (starEach (e :: es) X.env)).all (fun x => !x.1) && (backToKw cpos (keywordEach [] X.env)).all (fun x => x.1.isSome)
      && decide ((e :: es).length + ([]:List Keyword).length + (if ([]:List Keyword).isEmpty then 0 else 1) < 30)) = true:=by rfl)
    (hline:(apos.endLine == cpos.line) = true:=by rfl) (hs:starEach (e :: es) X.env = (false,eval e X.env) :: starEach es X.env:=by rfl) (hplain:(backTo cpos (starEach es X.env)).any (·.1) = false:=by rfl) :
    PE X (.Call (.Attribute o name apos) (e :: es) [] cpos) (tBM X.K T r to t):=by
  intro pins s σ H Q I h
  refine wpAny_Call_method_late hbase hfew hline rfl (thn (ho pins s σ H _ I h) fun v s1 ⟨x,H1,I1,r1,ty,q1⟩ => ?_)
  obtain ⟨h1,h2⟩:=tyV_is I1 r1 ty
  refine ⟨T,id,pa,slot,hty,h1,h2,?_⟩
  have hA:=ha cpos pins s1 σ H1 _ I1 q1
  rw [hs] at hA ⊢
  refine Calls.callWith_builtin (by show (false || (backTo cpos (starEach es X.env)).any (·.1)) = false; rw [hplain] <;> rfl) (Calls.evalArgs_plain ?_)
  exact thn hA fun us s2 ⟨vs,H2,I2,r2,q2⟩ => hm pins s2 σ H2 x vs v us Q I2 r1 r2 q2
/- xs.append(e),list.index on a module's tuple .. are MtR facts of 06m -/
end
end L2
namespace L2
open PySem PySem.Spec PyProof.Rows
noncomputable def MtM (X:Cx) (id:String) (r:V -> List V -> Hp -> VK -> Prop):Prop :=
  ∀ (pins:List (Addr×Obj)) (s:Shared) (σ:St) (H:Hp) (x:V) (xs:List V) (v:Value) (us:List Value) (Q:VK),Inv X pins σ H s -> RelV x v -> Vals xs us -> r x xs H Q ->
    wpAny (model X.prog X.w) X.A (call (.builtin id) (v :: us)) (EP X pins σ Q) X.xe s
theorem Vals.one:∀ {x:V} {us:List Value},Vals [x] us -> ∃ u,us = [u] /\ RelV x u
 :=fun h => by cases h with | cons r h => cases h; exact ⟨_,rfl,r⟩
theorem Vals.two:∀ {x y:V} {us:List Value},Vals [x,y] us -> ∃ u v,us = [u,v] /\ RelV x u /\ RelV y v
 :=fun h => by cases h with | cons r h => cases h with | cons q h => cases h; exact ⟨_,_,rfl,r,q⟩
theorem Vals.zero:∀ {us:List Value},Vals [] us -> us = []
  | _,.nil => rfl
theorem Vals.dropLast {xs:List V} {us:List Value} (h:Vals xs us):Vals xs.dropLast us.dropLast:=by
  induction h with
  | nil => exact .nil
  | cons r t ih =>
    cases t with
    | nil => exact .nil
    | cons q t' => exact .cons r ih
theorem Vals.eraseIdx:∀ {xs:List V} {us:List Value} (i:Nat),Vals xs us -> Vals (xs.eraseIdx i) (us.eraseIdx i)
  | _,_,_,.nil => .nil
  | _,_,0,.cons _ t => t
  | _,_,i + 1,.cons r t => .cons r (Vals.eraseIdx i t)
theorem Vals.reverse {xs:List V} {us:List Value} (h:Vals xs us):Vals xs.reverse us.reverse:=by
  induction h with
  | nil => exact .nil
  | cons r t ih => rw [List.reverse_cons,List.reverse_cons]; exact Vals.append ih (.cons r .nil)
theorem erase_last {α:Type} (l:List α):l.eraseIdx (l.length - 1) = l.dropLast:=by
  induction l with
  | nil => rfl
  | cons a r ih =>
    cases r with
    | nil => rfl
    | cons b r =>
      have e:(a :: b :: r).length - 1 = ((b :: r).length - 1) + 1:=by
        have h1:(a :: b :: r).length = r.length + 2:=rfl
        have h2:(b :: r).length = r.length + 1:=rfl
        omega
      rw [e,List.eraseIdx_cons_succ,ih]
      all_goals rfl
section
variable {X:Cx} {pins:List (Addr×Obj)} {σ:St} {H:Hp} {s:Shared} {l b:Addr} {xs ys zs:List V}
theorem Inv.lset {its its':List Value} {n:Nat} {f:Array Value -> Array Value} {t':Nat} (I:Inv X pins σ H s) (hH:H l = some (.lst xs))
    (e:s.heap.get? l = some { cls:=.type "list",data:=.seq its.toArray n }) (hf:f its.toArray = its'.toArray) (hv:Vals ys its') (hz:ys.length <= sizeLine) :
    Inv X pins σ (upd H l (.lst ys)) { s with heap:=s.heap.update l (Obj.mapSeq f),toks:=t' }:=by
  have q:=PySem.IsL.update e f
  rw [hf] at q
  refine I.write (x:=l) (e:=l) (by rw [hH]; exact trivial) (.inl rfl) (fun b' u hb hu => (Heap.get?_update_other s.heap (Obj.mapSeq f) (Ne.symm hb)).trans hu) ⟨_,q⟩ ?_
  exact ⟨hz,its',_,hv,q⟩
theorem Inv.lnew {its:List Value} {t':Nat} (I:Inv X pins σ H s) (hv:Vals ys its) (hz:ys.length <= sizeLine) :
    Inv X pins σ (upd H s.heap.objs.size (.lst ys)) { s with heap:=s.heap.push { cls:=.type "list",data:=.seq its.toArray },toks:=t' } :=
  I.laid (fun _ _ q => Heap.get?_push_of_some _ q) (Nat.le_refl _) ⟨hz,its,0,hv,Heap.get?_push_size _ rfl⟩
theorem Inv.fresh (I:Inv X pins σ H s):H s.heap.objs.size = none:=I.hok.fresh (Nat.le_refl _)
theorem Inv.lstM (I:Inv X pins σ H s) (hH:H l = some (.lst xs)):xs.length <= sizeLine /\ ∃ (its:List Value) (n:Nat),Vals xs its /\ xs.length = its.length /\ s.heap.get? l = some { cls:=.type "list",data:=.seq its.toArray n }:=by
  obtain ⟨z,its,n,r,e⟩:=I.hok l _ hH
  exact ⟨z,its,n,r,r.length,e⟩
end
section
variable {X:Cx}
noncomputable def rAppend:V -> List V -> Hp -> VK -> Prop:=fun x vs H Q => ∃ l xs y,x = .ref l /\ vs = [y] /\ H l = some (.lst xs) /\ xs.length < sizeLine /\ Q .non (upd H l (.lst (xs ++ [y])))
theorem mt_append:MtM X "list.append" rAppend:=by
  intro pins s σ H x vs v us Q I rx rv h
  obtain ⟨l,xs,y,rfl,rfl,hH,hz,q⟩:=h
  cases rx
  obtain ⟨u,rfl,ru⟩:=rv.one
  obtain ⟨z,its,n,r,hl,e⟩:=I.lstM hH
  refine call_meets F.slot_list_append ⟨_,e,rfl⟩ F.entry_list_append (F.args_list_append_2 _ _) (PySem.list_append l its.toArray n u (by rw [List.size_toArray]; omega)) ⟨e,?_⟩
  refine ⟨.non,_,I.lset (its':=its ++ [u]) hH e (by simp) (r.append (.cons ru .nil)) ?_,rfl,q⟩
  rw [List.length_append,List.length_singleton]
  omega
noncomputable def rPop:V -> List V -> Hp -> VK -> Prop:=fun x vs H Q => ∃ l xs y,x = .ref l /\ vs = [] /\ H l = some (.lst xs) /\ xs[xs.length - 1]? = some y /\ Q y (upd H l (.lst xs.dropLast))
theorem mt_pop:MtM X "list.pop" rPop:=by
  intro pins s σ H x vs v us Q I rx rv h
  obtain ⟨l,xs,y,rfl,rfl,hH,hy,q⟩:=h
  cases rx
  have hus:=rv.zero
  subst hus
  obtain ⟨z,its,n,r,hl,e⟩:=I.lstM hH
  obtain ⟨u,hu,ru⟩:=r.get hy
  have hy':its.toArray[its.toArray.size - 1]? = some u:=by
    show its.toArray[its.length - 1]? = some u
    rw [← Array.getElem?_toList,← hl]
    exact hu
  refine call_meets F.slot_list_pop ⟨_,e,rfl⟩ F.entry_list_pop (F.args_list_pop_1 _) (MeetsSeq.list_pop_last l its.toArray n u hy' (by rw [List.size_toArray]; omega)) ⟨e,?_⟩
  refine ⟨y,_,I.lset (its':=its.dropLast) hH e ?_ r.dropLast ?_,ru,q⟩
  . show its.toArray.eraseIdxIfInBounds (its.toArray.size - 1) = its.dropLast.toArray
    rw [List.size_toArray,List.eraseIdxIfInBounds_toArray,erase_last]
  . rw [List.length_dropLast]
    omega
noncomputable def rCat:R2:=fun x y H Q => ∃ l b xs zs,x = .ref l /\ y = .ref b /\ H l = some (.lst xs) /\ H b = some (.lst zs) /\ xs.length + zs.length <= sizeLine /\ ∀ p,H p = none -> Q (.ref p) (upd H p (.lst (xs ++ zs)))
theorem op_cat:OpR X (binaryOp .Add) rCat:=by
  intro pins s σ H x y v u Q I rx ry h
  obtain ⟨l,b,xs,zs,rfl,rfl,hH,hB,hz,q⟩:=h
  cases rx
  cases ry
  obtain ⟨z,its,n,r,hl,e⟩:=I.lstM hH
  obtain ⟨z2,its2,n2,r2,hl2,e2⟩:=I.lstM hB
  refine PySem.P.add_list e e2 ?_ (by rw [List.size_toArray,List.size_toArray]; omega)
  have ea:its.toArray ++ its2.toArray = (its ++ its2).toArray:=by simp
  rw [ea]
  exact ⟨.ref _,_,I.lnew (t':=s.toks) (r.append r2) (by rw [List.length_append]; omega),rfl,q _ I.fresh⟩
end
section
variable {prog:Program} {w:World} {A:Around} {E:Value -> Shared -> Prop} {s:Shared}
end
section
variable {X:Cx}
end
end L2
namespace Att
open PySem PySem.W PySem.Calls PyProof.Rows
theorem ints_of_wellAll {P:Params} {h:Heap}:∀ (ns:List Int) (vs:List Value),WellAll P h vs (ns.map WData.int) -> IntsAre vs ns:=by
  intro ns
  induction ns with
  | nil =>
    intro vs w
    rw [List.map_nil] at w
    cases w
    exact .nil
  | cons n ns ih =>
    intro vs w
    rw [List.map_cons] at w
    cases w with
    | cons a b =>
      cases a
      exact .cons _ _ (ih _ b)
theorem script_of {l:OpenLaw} {n:Nat} (hn:l.most = some n) {P:Params} {h:Heap} {args:List WData} {vals:List Value}
    (hpre:l.row.toRowW.claim.pre args = true) (hwl:WellAll P h vals args) :
    ∃ a vs ns,vals = [Value.ref a] /\ args = [WData.list (ns.map WData.int)] /\ h.get? a = some { cls:=.type "list",data:=.seq vs.toArray } /\ IntsAre vs ns /\ ns.length <= n:=by
  have hsh:WShape.hasAll [] args [.list .int] = true:=(pre_splitW hpre).1
  have hc:l.pre.holds [] { args:=args } = true:=(pre_splitW hpre).2
  obtain ⟨d,r,rfl,h1,h2⟩:=hasAllW_cons hsh
  obtain rfl:=hasAllW_nil h2
  obtain ⟨xs,rfl,h3⟩:=hasW_list h1
  obtain ⟨ns,rfl⟩:=items_int h3
  have hlen:ns.length <= n:=by
    unfold OpenLaw.pre at hc
    have h4:(WTm.not (.lt (.lit (.int (n:Int))) (.len (.arg 0)))).holds [] { args:=[.list (ns.map .int)] } = true:=by
      have h4:=(holds_andW hc).1
      rw [hn] at h4
      exact h4
    have h5:=condW_of h4 (w_not (w_lt w_lit (w_len_list (w_arg rfl))))
    rw [List.length_map] at h5
    refine Nat.le_of_not_lt fun q => ?_
    have q':(n:Int) < ((ns.length:Nat):Int):=by omega
    first
      | (rw [decide_eq_true q'] at h5; exact absurd h5 (by decide))
      | (simp at h5; omega)
  cases hwl with
  | cons w1 w2 =>
    cases w2
    cases w1 with
    | list ho hall => exact ⟨_,_,ns,rfl,rfl,ho,ints_of_wellAll ns _ hall,hlen⟩
theorem post_true (l:OpenLaw) (args:List WData):l.row.toRowW.claim.post args (.bool true) args = true :=
  postW_of (r:=l.row.toRowW) (X:=(true == true))
    (show WShape.has [] (.bool true) .bool = true by first | rfl | decide | simp [WShape.has,WShape.arms,WShape.armsAll])
    (show (WTm.eq .res (.lit (.bool true))).value [] { args:=args,res:=some (.bool true),after:=args } = some (.bool (true == true)) from w_eq_bool (w_res rfl) w_lit) rfl
theorem attach_call {l:OpenLaw} {n:Nat} {q:Program} {loose:List Str} {XP:(Str -> Option Value) -> Heap -> Prop} {YP:World -> Heap -> Prop} {d:DefRec}
    (hn:l.most = some n) (hdf:d.params.defaults = [])
    (call:∀ (w:World) (s₀ s₁:Shared) (mg mb:Str -> Option Value) (fa:Addr) (o:Obj) (pm cd doc:Value) (a:Addr) (vs:List Value) (ns:List Int),
      Ground q loose [] XP w s₀ mg mb s₁.heap -> YP w s₁.heap ->
      s₁.heap.get? fa = some o -> o.data = .func (docDef d.name d.params d.body d.scope pm cd doc) -> s₁.heap.CodeRec cd d.name -> mg d.name = some (.ref fa) ->
      s₁.heap.get? a = some { cls:=.type "list",data:=.seq vs.toArray } -> IntsAre vs ns -> ns.length <= n -> s₁.gens = #[] ->
      codeAny (model l.prog w) callerA (.call (.ref fa) ⟨[.ref a],[]⟩) (fun r s' => r = .ok (.ret (.bool true)) /\ OldK s₁.heap s'.heap /\ s'.os = s₁.os /\ AllBare s'.gens) s₁) :
    WalkO q loose XP YP l.row.toRowW d [] (fun f vs => PySem.call f vs):=by
  intro w s₀ s₁ mg mb G Y fa o pm cd doc dV kV ho hd hcd hD hmg hg args vals as hpre hlay hrd hwl hlo
  obtain rfl:dV = .none:=Dflts.none hD hdf
  obtain rfl:kV = .none:=Dflts.noKw hD
  obtain ⟨a,vs,ns,rfl,rfl,hobj,hints,hlen⟩:=script_of hn hpre hwl
  refine enter_call (codeAny_mono (call w s₀ s₁ mg mb fa o pm cd doc a vs ns G Y ho (fd_plain hd) hcd hmg hobj hints hlen hg) fun r s' hq => ?_)
  obtain ⟨rfl,h2,h3,h4⟩:=hq
  exact ⟨.inl ⟨.bool true,.bool true,[],rfl,fun _ => rfl,.bool true,post_true l _,fun _ => ⟨List.Pairwise.nil,fun _ hm => (nomatch hm)⟩⟩,h2,h3,h4⟩
section
variable {prog:Program} {w:World} {A:Around} {E:Value -> Shared -> Prop} {s:Shared} {K:Frag}
noncomputable def noObjs (h:Heap):Heap:={ h with objs:=#[] }
theorem noObjs_get (h:Heap) (b:Addr):(noObjs h).get? b = none:=by
  cases e:(noObjs h).get? b with
  | none => rfl
  | some o => exact absurd (Heap.lt_size e) (Nat.not_lt_zero _)
noncomputable def ledger (h:Heap) (L d:Addr):List (Addr×Obj):=(List.range h.objs.size).filterMap fun a => if a = L ∨ a = d then none else (h.get? a).map fun o => (a,o)
theorem mem_ledger {h:Heap} {L d a:Addr} {o:Obj}:(a,o) ∈ ledger h L d ↔ a ≠ L /\ a ≠ d /\ h.get? a = some o:=by
  unfold ledger
  rw [List.mem_filterMap]
  constructor
  . rintro ⟨b,_,e⟩
    split at e
    . cases e
    . rename_i hb
      obtain ⟨o',ho,e'⟩:=Option.map_eq_some_iff.mp e
      cases e'
      exact ⟨fun q => hb (.inl q),fun q => hb (.inr q),ho⟩
  . rintro ⟨n1,n2,ho⟩
    refine ⟨a,List.mem_range.mpr (Heap.lt_size ho),?_⟩
    rw [if_neg (show ¬ (a = L ∨ a = d) from fun q => q.elim n1 n2),ho] <;> rfl
end
end Att
namespace L2
open PySem PySem.Spec PyProof.Rows
theorem vals_ints:∀ {vs:List Value} {ns:List Int},IntsAre vs ns -> Vals (ns.map V.int) vs
  | _,_,.nil => .nil
  | _,_,.cons n t h => .cons ⟨t,rfl⟩ (vals_ints h)
end L2
namespace L2
open PySem PySem.Spec PyProof.Rows
end L2
/- THE LAST THEOREM (shape; LID,My.* are yours):
   My.Adr: a structure of the addresses that your layer names (classes,functions); My.Txt K t: a structure (Prop) of the equations over K;
   My.txt_mk:{K} {implicit addresses ..} (e1:nsIn K mainGlobals "law" = some (some (.ref f))) (e2:K.lookup f = some ⟨oc,od,.func (fnOf "law" "law" params body scope dV kV doc pm an cdv ct),sl⟩) (e3:codeIn K cdv "law" = true) ..:∃ t,My.Txt K t
(the tactic k_is has no namespace: write k_is) -/
namespace L2
open PySem PySem.Spec PyProof.Rows
noncomputable def defArgs (s:Stmt):Arguments:=match s with
  | .FunctionDef _ a _ _ _ _ _ _ _ _ => a
  | _ => { posonlyargs:=[],args:=[],vararg:=none,kwonlyargs:=[],kw_defaults:=[],kwarg:=none,defaults:=[] }
noncomputable def defBody (s:Stmt):List Stmt:=match s with
  | .FunctionDef _ _ b _ _ _ _ _ _ _ => b
  | _ => []
noncomputable def defScope (s:Stmt):Scope:=match s with
  | .FunctionDef _ _ _ _ _ _ sc _ _ _ => sc
  | _ => { kind:=.function,names:=[],isGenerator:=false,isCoroutine:=false }
noncomputable abbrev CX0:CXT:=fun _ _ _ _ _ _ => False
noncomputable abbrev E0:XK:=fun _ _ _ => False
theorem pass0 {X:Cx}:Passes CX0 X E0:=fun _ _ _ _ _ _ _ h => h.elim
structure Fun (K:PySem.W.Frag) (x qual:Str) (st:Stmt) (f:Addr) (fd:FuncData):Prop where
  ex:∃ (oc:Value) (od:Option Addr) (kV doc pm:Value) (an:Option Addr) (cdv ct:Value) (osl:Array (Option Value)),
    fd = PySem.W.fnOf x qual (defArgs st) (defBody st) (defScope st) .none kV doc pm an cdv ct /\ K.lookup f = some ⟨oc,od,.func fd,osl⟩ /\ PySem.W.codeIn K cdv qual = true
  kp:PySem.W.keepIn K (.ref f) = true
section
variable {P:Program} {w:World} {K:PySem.W.Frag} {mg:Str -> Option Value} {base:Heap}
theorem Fun.ok {x qual:Str} {st:Stmt} {f:Addr} {fd:FuncData} {N ps:List Str} {k:Nat} {sp:Sp} (F:Fun K x qual st f fd) (S:FnScope N ps (defScope st)) (len:∀ vs H Q E,sp vs H Q E -> vs.length = ps.length)
    (hbody:∀ (cdv:Value) (A:Around) (outer:List Env) (s:Shared) (H:Hp) (vs:List V) (Q:VK) (E:XK),Room k (A.deeper (envOfC qual (defScope st) s.heap.objs.size f cdv)) -> sp vs H Q E ->
      ∃ t,PSs (cxOf CX0 P w K mg base N qual (defScope st) f cdv A outer s H E).nox (defBody st) t /\ t { nx:=fun _ H' => Q .non H',rt:=Q } (start N vs) H):FnOk P w K mg base CX0 (k + 1) f fd ps sp:=by
  obtain ⟨oc,od,kV,doc,pm,an,cdv,ct,osl,rfl,lk,hcd⟩:=F.ex
  refine fn_of lk hcd S len fun A outer s H vs Q E hr hsp => ?_
  obtain ⟨t,h,q⟩:=hbody cdv A outer s H vs Q E hr hsp
  exact ⟨t,h.nox,q⟩
theorem Fun.binds {x qual:Str} {st:Stmt} {f:Addr} {fd:FuncData} {ps:List Str} (F:Fun K x qual st f fd)
    (h:∀ (kV doc pm:Value) (an:Option Addr) (cdv ct:Value) (us:List Value),us.length = ps.length -> bindArgs (PySem.W.fnOf x qual (defArgs st) (defBody st) (defScope st) .none kV doc pm an cdv ct) ⟨us,[]⟩ = pure (ps.zip us)):Binds K fd ps []:=by
  obtain ⟨oc,od,kV,doc,pm,an,cdv,ct,osl,rfl,lk,hcd⟩:=F.ex
  exact .all (h kV doc pm an cdv ct)
theorem fun_mk {x qual:Str} {st:Stmt} {f:Addr} {oc:Value} {od an:Option Addr} {osl:Array (Option Value)} {kV doc pm cdv ct:Value} (l:K.lookup f = some ⟨oc,od,.func (PySem.W.fnOf x qual (defArgs st) (defBody st) (defScope st) .none kV doc pm an cdv ct),osl⟩)
    (c:PySem.W.codeIn K cdv qual = true) (k:PySem.W.keepIn K (.ref f) = true):Fun K x qual st f (PySem.W.fnOf x qual (defArgs st) (defBody st) (defScope st) .none kV doc pm an cdv ct):=⟨⟨oc,od,kV,doc,pm,an,cdv,ct,osl,rfl,l,c⟩,k⟩
end
theorem small1000 {n:Nat} (h:n <= 1000):n < sizeLine:=Nat.lt_of_le_of_lt h (by decide)
section
variable {X:Cx}
theorem pv (i:Nat) {x:Str} {pos:Pos} (hN:X.N[i]? = some x:=by rfl) (hv:Vis X.env.scope x:=by first | exact Or.inl rfl | exact Or.inr (Or.inl rfl) | exact Or.inr (Or.inr rfl)) (hd:(x == ("__debug__":Str)) = false:=by decide)
    (hcd:(x == ("__classdict__":Str)) = false:=by decide):PE X (.Name x pos) (tVar i):=pe_var hN hv hd hcd
end
theorem iteF {A B:Prop} (h:B):if false = true then A else B:=by
  rw [if_neg Bool.false_ne_true]
  exact h
theorem iteT {A B:Prop} (h:A):if true = true then A else B:=by
  rw [if_pos rfl]
  exact h
noncomputable def Same (H H':Hp):Prop:=∀ b o,H b = some o -> H' b = some o
theorem Same.refl (H:Hp):Same H H:=fun _ _ h => h
theorem Same.trans {H H1 H2:Hp} (a:Same H H1) (b:Same H1 H2):Same H H2:=fun c o h => b c o (a c o h)
theorem Same.free {H H':Hp} (e:Same H H') {l:Addr} (h:H' l = Option.none):H l = Option.none:=by
  cases q:H l with
  | none => rfl
  | some o =>
    rw [e l o q] at h
    cases h
theorem Same.seq {K:PySem.W.Frag} {H H':Hp} {a:Addr} {xs:List V} (e:Same H H') (h:SqL K H a xs):SqL K H' a xs:=by
  rcases h with (h | ⟨o,h⟩) | h
  . exact .inl (.inl (e _ _ h))
  . exact .inl (.inr ⟨o,e _ _ h⟩)
  . exact .inr h
end L2
namespace L2
open PySem PySem.Spec PyProof.Rows
section
variable {κ:Type} [DecidableEq κ]
noncomputable def valV (kvs:List (κ×V)) (k:κ):Option V:=(kvs.find? fun kv => decide (kv.1 = k)).map (·.2)
noncomputable def putK (kvs:List (κ×V)) (k:κ) (v:V):List (κ×V) :=
  if (kvs.any fun kv => decide (kv.1 = k)) = true then kvs.map (fun kv => if kv.1 = k then (kv.1,v) else kv) else kvs ++ [(k,v)]
noncomputable def dropK (kvs:List (κ×V)) (k:κ):List (κ×V):=kvs.filter fun kv => decide (kv.1 ≠ k)
theorem valV_nil {k:κ}:valV ([]:List (κ×V)) k = none:=rfl
theorem valV_pos {p:κ×V} {r:List (κ×V)} {k:κ} (e:p.1 = k):valV (p :: r) k = some p.2:=by simp [valV,List.find?_cons,e]
theorem valV_neg {p:κ×V} {r:List (κ×V)} {k:κ} (e:¬ p.1 = k):valV (p :: r) k = valV r k:=by simp [valV,List.find?_cons,e]
theorem valV_any (k:κ):∀ kvs:List (κ×V),(kvs.any fun kv => decide (kv.1 = k)) = (valV kvs k).isSome
  | [] => rfl
  | p :: r => by
    rw [List.any_cons]
    by_cases e:p.1 = k
    . simp only [valV_pos e,decide_eq_true e,Bool.true_or,Option.isSome_some]
    . rw [valV_neg e,decide_eq_false e,Bool.false_or]; exact valV_any k r
theorem valV_map (k j:κ) (y:V):∀ kvs:List (κ×V),valV (kvs.map fun kv => if kv.1 = k then (kv.1,y) else kv) j = (valV kvs j).map fun x => if j = k then y else x
  | [] => rfl
  | p :: r => by
    have ih:=valV_map k j y r
    rw [List.map_cons]
    by_cases h:p.1 = k
    . rw [if_pos h]
      by_cases e:p.1 = j
      . rw [valV_pos (p:=(p.1,y)) e,valV_pos e,Option.map_some,if_pos (e.symm.trans h)]
      . rw [valV_neg (p:=(p.1,y)) e,valV_neg e,ih]
    . rw [if_neg h]
      by_cases e:p.1 = j
      . rw [valV_pos (p:=p) e,valV_pos e,Option.map_some,if_neg (fun z => h (e.trans z))]
      . rw [valV_neg (p:=p) e,valV_neg e,ih]
theorem valV_snoc (k j:κ) (y:V):∀ kvs:List (κ×V),valV kvs k = none -> valV (kvs ++ [(k,y)]) j = if j = k then some y else valV kvs j
  | [],_ => by
    by_cases e:k = j
    . rw [if_pos e.symm]; exact valV_pos (p:=(k,y)) e
    . rw [if_neg (fun z => e z.symm)]; exact valV_neg (p:=(k,y)) e
  | p :: r,hn => by
    rw [List.cons_append]
    have hk:¬ p.1 = k:=fun z => by rw [valV_pos z] at hn; cases hn
    rw [valV_neg hk] at hn
    have ih:=valV_snoc k j y r hn
    by_cases e:p.1 = j
    . rw [valV_pos e,valV_pos e,if_neg (fun z => hk (e.trans z))]
    . rw [valV_neg e,valV_neg e,ih]
theorem valV_put (kvs:List (κ×V)) (k j:κ) (y:V):valV (putK kvs k y) j = if j = k then some y else valV kvs j:=by
  unfold putK
  by_cases a:(kvs.any fun kv => decide (kv.1 = k)) = true
  . rw [if_pos a,valV_map]
    rw [valV_any] at a
    by_cases e:j = k
    . obtain ⟨x,hx⟩:=Option.isSome_iff_exists.mp a
      rw [if_pos e,e,hx,Option.map_some,if_pos rfl]
    . rw [if_neg e]
      cases valV kvs j with
      | none => rfl
      | some x => rw [Option.map_some,if_neg e]
  . rw [if_neg a]
    refine valV_snoc k j y kvs ?_
    rw [valV_any] at a
    cases q:valV kvs k with
    | none => rfl
    | some x => rw [q] at a; exact (a rfl).elim
theorem length_putK (kvs:List (κ×V)) (k:κ) (v:V):(putK kvs k v).length <= kvs.length + 1:=by
  unfold putK
  split
  . rw [List.length_map]; omega
  . rw [List.length_append,List.length_cons,List.length_nil]; omega
theorem RelO.getD {o:Option V} {u:Option Value} {d:V} {d':Value} (r:RelO o u) (rd:RelV d d'):RelV (o.getD d) (u.getD d'):=by
  cases o with
  | none => cases u with
    | none => exact rd
    | some _ => exact (show False from r).elim
  | some _ => cases u with
    | none => exact (show False from r).elim
    | some _ => exact r
theorem KV.any {kvs:List (κ×V)} {vs:List (κ×Value)} (r:KV kvs vs) (k:κ):(kvs.any fun kv => decide (kv.1 = k)) = vs.any fun kv => decide (kv.1 = k):=by
  unfold KV at r
  induction r with
  | nil => rfl
  | cons h t ih => rw [List.any_cons,List.any_cons,ih,h.1]
theorem KV.length {kvs:List (κ×V)} {vs:List (κ×Value)} (r:KV kvs vs):kvs.length = vs.length:=Paired.length r
end
noncomputable abbrev KT (H:Hp):List (List Key×V) -> List (List Key×Addr×Value) -> Prop:=Paired fun p q => p.1 = q.1 /\ H q.2.1 = some (.tup (p.1.map kV)) /\ RelV p.2 q.2.2
theorem KT.keeps {H H':Hp} {kvs:List (List Key×V)} {xs:List (List Key×Addr×Value)} (r:KT H kvs xs) (ht:∀ b ys,H b = some (.tup ys) -> H' b = some (.tup ys)):KT H' kvs xs :=
  Paired.mapP r fun _ _ z => ⟨z.1,ht _ _ z.2.1,z.2.2⟩
section
variable {P:Program} {w:World} {H:Hp} {h:Heap} {a:Addr}
end
noncomputable def DGet (H:Hp) (a:Addr) (y:V) (r:Option V):Prop :=
  (∃ kvs k,Rd H a (.dK kvs) /\ y = kV k /\ r = valV kvs k) ∨ ∃ kvs k b,Rd H a (.dT kvs) /\ y = .ref b /\ H b = some (.tup (k.map kV)) /\ r = valV kvs k
noncomputable def DPut (H:Hp) (a:Addr) (y v:V) (H':Hp):Prop :=
  (∃ kvs k,H a = some (.dK kvs) /\ y = kV k /\ kvs.length < sizeLine /\ H' = upd H a (.dK (putK kvs k v))) ∨
  ∃ kvs k b,H a = some (.dT kvs) /\ y = .ref b /\ H b = some (.tup (k.map kV)) /\ kvs.length < sizeLine /\ H' = upd H a (.dT (putK kvs k v))
theorem DGet.k {H:Hp} {a:Addr} {kvs:List (Key×V)} {k:Key} (e:H a = some (.dK kvs)):DGet H a (kV k) (valV kvs k):=.inl ⟨kvs,k,.inl e,rfl,rfl⟩
theorem DGet.t {H:Hp} {a b:Addr} {kvs:List (List Key×V)} {k:List Key} (e:H a = some (.dT kvs)) (eb:H b = some (.tup (k.map kV))):DGet H a (.ref b) (valV kvs k):=.inr ⟨kvs,k,b,.inl e,rfl,eb,rfl⟩
theorem DPut.k {H:Hp} {a:Addr} {kvs:List (Key×V)} {k:Key} {v:V} (e:H a = some (.dK kvs)) (hl:kvs.length < sizeLine):DPut H a (kV k) v (upd H a (.dK (putK kvs k v))):=.inl ⟨kvs,k,e,rfl,hl,rfl⟩
theorem DPut.t {H:Hp} {a b:Addr} {kvs:List (List Key×V)} {k:List Key} {v:V} (e:H a = some (.dT kvs)) (eb:H b = some (.tup (k.map kV))) (hl:kvs.length < sizeLine) :
    DPut H a (.ref b) v (upd H a (.dT (putK kvs k v))):=.inr ⟨kvs,k,b,e,rfl,eb,hl,rfl⟩
section
variable {X:Cx} {pins:List (Addr×Obj)} {σ:St} {H:Hp} {s:Shared} {a:Addr} {y v:V} {u r:Value} {o:Option V} {A:Around} {E:Value -> Shared -> Prop}
end
section
variable {X:Cx} {pins:List (Addr×Obj)} {σ:St} {H:Hp} {s:Shared} {a:Addr} {kvs:List (Key×V)} {k:Key} {u:Value} {A:Around} {E:Value -> Shared -> Prop}
end
noncomputable def tDGet (td ty:TE):TE:=fun σ H Q => td σ H fun x H1 => ty σ H1 fun y H2 => ∃ a v,x = .ref a /\ DGet H2 a y (some v) /\ Q v H2
noncomputable def tDIn (ty td:TE):TE:=fun σ H Q => ty σ H fun y H1 => td σ H1 fun x H2 => ∃ a o,x = .ref a /\ DGet H2 a y o /\ Q (.bl o.isSome) H2
noncomputable def tDNotIn (ty td:TE):TE:=fun σ H Q => ty σ H fun y H1 => td σ H1 fun x H2 => ∃ a o,x = .ref a /\ DGet H2 a y o /\ Q (.bl (!o.isSome)) H2
noncomputable def sDPut (td ty tv:TE):TS:=fun D σ H => tv σ H fun v H1 => td σ H1 fun x H2 => ty σ H2 fun y H3 => ∃ a H4,x = .ref a /\ DPut H3 a y v H4 /\ D.nx σ H4
section
variable {X:Cx} {o i e value:Expr} {pos pos' tpos:Pos} {td ty tv:TE}
end
section
variable {X:Cx} {pos:Pos}
end
noncomputable def IsD (H:Hp) (a:Addr):Prop:=(∃ kvs,Rd H a (.dK kvs)) ∨ ∃ kvs,Rd H a (.dT kvs)
section
variable {X:Cx} {pins:List (Addr×Obj)} {σ:St} {H:Hp} {s:Shared} {a:Addr} {y d:V} {u r:Value} {o:Option V} {A:Around} {E:Value -> Shared -> Prop}
end
noncomputable def tDGet1 (td ty:TE):TE:=fun σ H Q => td σ H fun x H1 => ∃ a,x = .ref a /\ IsD H1 a /\ ty σ H1 fun y H2 => ∃ o,DGet H2 a y o /\ Q (o.getD .non) H2
noncomputable def tDGet2 (td ty tx:TE):TE:=fun σ H Q => td σ H fun x H1 => ∃ a,x = .ref a /\ IsD H1 a /\ ty σ H1 fun y H2 => tx σ H2 fun z H3 => ∃ o,DGet H3 a y o /\ Q (o.getD z) H3
noncomputable def tDPop1 (td ty:TE):TE:=fun σ H Q => td σ H fun x H1 => ∃ a,x = .ref a /\ IsD H1 a /\ ty σ H1 fun y H2 => ∃ kvs k v,H2 a = some (.dK kvs) /\ y = kV k /\ valV kvs k = some v /\ Q v (upd H2 a (.dK (dropK kvs k)))
section
variable {X:Cx} {o e f:Expr} {apos cpos:Pos} {td ty tx:TE}
end
section
variable {X:Cx} {pins:List (Addr×Obj)} {σ:St} {H:Hp} {s:Shared} {a:Addr} {kvs:List (Key×V)} {A:Around} {E:Value -> Shared -> Prop}
end
section
variable {X:Cx} {pins:List (Addr×Obj)} {σ:St} {H:Hp} {s:Shared} {a:Addr} {y:V} {u:Value} {A:Around} {E:Value -> Shared -> Prop}
end
end L2
namespace L2
open PySem PySem.Spec PyProof.Rows
section
variable {κ:Type} [DecidableEq κ]
end
end L2
namespace L2
open PySem PySem.Spec PyProof.Rows
noncomputable def Sm (n:Nat) (x:Int):Prop:=x.natAbs < 2 ^ n
theorem Sm.mono {m n:Nat} {x:Int} (h:Sm m x) (l:m <= n):Sm n x:=Nat.lt_of_lt_of_le h (Nat.pow_le_pow_right (by decide) l)
theorem Sm.bits {n:Nat} {x:Int} (h:Sm n x):Builtin.Int.intBits x <= n:=by
  unfold Builtin.Int.intBits
  split
  . exact Nat.zero_le _
  . have hn:x.natAbs < 2 ^ n:=h
    rename_i hx
    have h0 : x.natAbs ≠ 0 := fun e => hx (by have : x = 0 := by omega
                                              rw [this]; rfl)
    have:x.natAbs.log2 < n:=(Nat.log2_lt h0).mpr hn
    omega
theorem Sm.mulOk {a b:Int} {m n:Nat} (ha:Sm m a) (hb:Sm n b) (h:m + n <= 134217728):IntMulOk a b:=PyProof.Rows.mulOk_of_bits ha.bits hb.bits h
theorem Sm.log2 {n:Nat} {x:Int} (h:Sm n x):x.natAbs.log2 < n + 1:=by
  have hn:x.natAbs < 2 ^ n:=h
  by_cases h0:x.natAbs = 0
  . rw [h0,Nat.log2_zero]; omega
  . have:=(Nat.log2_lt h0).mpr hn
    omega
theorem Sm.of {n:Nat} {x:Int} (h1:-(2 ^ n:Nat) < x) (h2:x < (2 ^ n:Nat)):Sm n x:=by
  unfold Sm
  generalize 2 ^ n = k at *
  omega
theorem Sm.mul {a b:Int} {m n:Nat} (ha:Sm m a) (hb:Sm n b):Sm (m + n) (a * b):=by
  unfold Sm at *
  rw [Int.natAbs_mul,Nat.pow_add]
  exact Nat.mul_lt_mul'' ha hb
theorem Sm.add {a b:Int} {n:Nat} (ha:Sm n a) (hb:Sm n b):Sm (n + 1) (a + b):=by
  unfold Sm at *
  rw [Nat.pow_succ]
  have:=Int.natAbs_add_le a b
  omega
theorem Sm.sub {a b:Int} {n:Nat} (ha:Sm n a) (hb:Sm n b):Sm (n + 1) (a - b):=by
  unfold Sm at *
  rw [Nat.pow_succ]
  omega
theorem Sm.neg {a:Int} {n:Nat} (ha:Sm n a):Sm n (-a):=by
  unfold Sm at *
  rw [Int.natAbs_neg]; exact ha
theorem Sm.le {a b:Int} {n:Nat} (h:a.natAbs <= b.natAbs) (hb:Sm n b):Sm n a:=Nat.lt_of_le_of_lt h hb
section
variable {X:Cx}
noncomputable def CDivB (_ j:Int):Prop:=j ≠ 0 /\ Sm 8000 j
theorem op_fdivB:OpR X (binaryOp .FloorDiv) (rI CDivB fun i j => .int (i.fdiv j)):=opI fun _ _ _ _ _ _ _ hc q => floordiv_int hc.1 q (.inl (PyProof.noPylong_of_log2 (Nat.lt_trans hc.2.log2 (by decide))))
noncomputable def CMulB (i j:Int):Prop:=CMul i j ∨ (Sm 60000000 i /\ Sm 60000000 j)
theorem CMulB.ok {i j:Int} (h:CMulB i j):IntMulOk i j:=by
  rcases h with h | ⟨h1,h2⟩
  . exact h.ok
  . exact h1.mulOk h2 (by decide)
theorem CMulB.l {i j:Int} (h1:-(2 ^ 64) < i) (h2:i < 2 ^ 64):CMulB i j:=.inl (.inl ⟨h1,h2⟩)
theorem CMulB.r {i j:Int} (h1:-(2 ^ 64) < j) (h2:j < 2 ^ 64):CMulB i j:=.inl (.inr ⟨h1,h2⟩)
theorem CMulB.s {i j:Int} {m n:Nat} (h1:Sm m i) (h2:Sm n j) (hm:m <= 60000000) (hn:n <= 60000000):CMulB i j:=.inr ⟨h1.mono hm,h2.mono hn⟩
theorem op_mulB:OpR X (binaryOp .Mult) (rI CMulB fun i j => .int (i * j)):=opI fun _ _ _ _ _ _ _ hc q => mul_int q hc.ok
noncomputable def rIsB:R2:=fun x y H Q => ∃ b c,x = .bl b /\ y = .bl c /\ Q (.bl (b == c)) H
noncomputable def rIsNB:R2:=fun x y H Q => ∃ b c,x = .bl b /\ y = .bl c /\ Q (.bl (b != c)) H
end
section
variable {σ:St} {H H':Hp} {Q:VK} {D:Ends} {t u:TS} {te ta tb:TE} {v w x:V} {i j:Int} {b c:Bool} {X:Cx} {K:PySem.W.Frag}
theorem r_var {n:Nat} (h:σ[n]? = some (some v)) (k:Q v H):tVar n σ H Q:=⟨v,h,k⟩
theorem r_c (k:Q v H):tC v σ H Q:=k
theorem r_seq (k:t ⟨u D,D.rt,D.bk,D.ct⟩ σ H):tSeq t u D σ H:=k
theorem r_nx {n r b' c'} (k:n σ H):Ends.nx ⟨n,r,b',c'⟩ σ H:=k
theorem r_rt {n r b' c'} (k:r v H):Ends.rt ⟨n,r,b',c'⟩ v H:=k
theorem r_bk {n r b' c'} (k:b' σ H):Ends.bk ⟨n,r,b',c'⟩ σ H:=k
theorem r_ct {n r b' c'} (k:c' σ H):Ends.ct ⟨n,r,b',c'⟩ σ H:=k
theorem r_next (k:D.nx σ H):tNext D σ H:=k
theorem r_break (k:D.bk σ H):tBreak D σ H:=k
theorem r_cont (k:D.ct σ H):tCont D σ H:=k
theorem r_asg {g:TG} (k:te σ H fun x H1 => g x σ H1 D.nx):tAsg te g D σ H:=k
theorem r_gname {n:Nat} {R:St -> Hp -> Prop} (k:R (σ.set n (some v)) H):gName n v σ H R:=k
theorem r_op {r:R2} (k:ta σ H fun x H1 => tb σ H1 fun y H2 => r x y H2 Q):tOp r ta tb σ H Q:=k
theorem r_un {r} (k:ta σ H fun x H1 => r x H1 Q):tUn r ta σ H Q:=k
theorem r_I0 {g} (k:Q (g i j) H):rI0 g (.int i) (.int j) H Q:=⟨i,j,rfl,rfl,k⟩
theorem r_I {C g} (c:C i j) (k:Q (g i j) H):rI C g (.int i) (.int j) H Q:=⟨i,j,rfl,rfl,c,k⟩
theorem r_U {g} (k:Q (g i) H):rU g (.int i) H Q:=⟨i,rfl,k⟩
noncomputable def bK (R:Bool -> Hp -> Prop):VK:=fun x H => ∃ k,x = .bl k /\ R k H
theorem r_bK {R:Bool -> Hp -> Prop} (k:R b H):bK R (.bl b) H:=⟨b,rfl,k⟩
theorem r_test {R:Bool -> Hp -> Prop} (k:te σ H (bK R)):tTest te σ H R:=k
theorem r_tB {R:Bool -> Hp -> Prop} (k:te σ H (bK R)):tB te σ H R:=k
theorem r_ifS {tc:TT} (k:tc σ H fun b H1 => if b = true then t D σ H1 else u D σ H1):tIfS tc t u D σ H:=k
theorem r_if {tc:TT} (k:tc σ H fun b H1 => if b = true then ta σ H1 Q else tb σ H1 Q):tIf tc ta tb σ H Q:=k
theorem r_and {ca cb:TT} {R:Bool -> Hp -> Prop} (k:ca σ H fun c H1 => if c = true then cb σ H1 R else R false H1):tAnd ca cb σ H R:=k
theorem r_or {ca cb:TT} {R:Bool -> Hp -> Prop} (k:ca σ H fun c H1 => if c = true then R true H1 else cb σ H1 R):tOr ca cb σ H R:=k
theorem r_not {ca:TT} {R:Bool -> Hp -> Prop} (k:ca σ H fun c H1 => R (!c) H1):tNot ca σ H R:=k
noncomputable def andK (tb:TE) (σ:St) (Q:VK):VK:=fun x H1 => ∃ c,x = .bl c /\ if c = true then tb σ H1 Q else Q (.bl false) H1
noncomputable def orK (tb:TE) (σ:St) (Q:VK):VK:=fun x H1 => ∃ c,x = .bl c /\ if c = true then Q (.bl true) H1 else tb σ H1 Q
noncomputable def notK (Q:VK):VK:=fun x H1 => ∃ c,x = .bl c /\ Q (.bl (!c)) H1
theorem r_andV (k:ta σ H (andK tb σ Q)):tAndV ta tb σ H Q:=k
theorem r_orV (k:ta σ H (orK tb σ Q)):tOrV ta tb σ H Q:=k
theorem r_notV (k:ta σ H (notK Q)):tNotV ta σ H Q:=k
theorem r_andK (k:if c = true then tb σ H Q else Q (.bl false) H):andK tb σ Q (.bl c) H:=⟨c,rfl,k⟩
theorem r_orK (k:if c = true then Q (.bl true) H else tb σ H Q):orK tb σ Q (.bl c) H:=⟨c,rfl,k⟩
theorem r_notK (k:Q (.bl (!c)) H):notK Q (.bl c) H:=⟨c,rfl,k⟩
theorem r_ret (k:te σ H D.rt):tRet te D σ H:=k
theorem r_retN (k:D.rt .non H):tRetN D σ H:=k
theorem r_drop (k:te σ H fun _ H1 => D.nx σ H1):tDrop te D σ H:=k
theorem r_nil {R:List V -> Hp -> Prop} (k:R [] H):tNil σ H R:=k
theorem r_cons {tr:TA} {R:List V -> Hp -> Prop} (k:ta σ H fun x H1 => tr σ H1 fun xs H2 => R (x :: xs) H2):tCons ta tr σ H R:=k
noncomputable def tupK (Q:VK):List V -> Hp -> Prop:=fun xs H1 => xs.length <= sizeLine /\ ∀ p,H1 p = none -> Q (.ref p) (upd H1 p (.tup xs))
noncomputable def lstK (Q:VK):List V -> Hp -> Prop:=fun xs H1 => xs.length <= sizeLine /\ ∀ p,H1 p = none -> Q (.ref p) (upd H1 p (.lst xs))
theorem le_line {n:Nat} (h:n <= 1000):n <= sizeLine:=Nat.le_of_lt (small1000 h)
theorem r_tup {tr:TA} (k:tr σ H (tupK Q)):tTup tr σ H Q:=k
theorem r_lst {tr:TA} (k:tr σ H (lstK Q)):tLst tr σ H Q:=k
theorem r_tupK {xs:List V} (k:∀ p,H p = none -> Q (.ref p) (upd H p (.tup xs))) (h:xs.length <= 1000:=by exact Nat.le_of_ble_eq_true rfl):tupK Q xs H:=⟨le_line h,k⟩
theorem r_lstK {xs:List V} (k:∀ p,H p = none -> Q (.ref p) (upd H p (.lst xs))) (h:xs.length <= 1000:=by exact Nat.le_of_ble_eq_true rfl):lstK Q xs H:=⟨le_line h,k⟩
theorem r_call {sp:Sp} {E:XK} {tr:TA} (k:tr σ H fun vs H1 => sp vs H1 Q E):tCall sp [] E tr σ H Q:=by
  show tr σ H fun vs H1 => sp (vs ++ []) H1 Q E
  have e:(fun (vs:List V) H1 => sp (vs ++ []) H1 Q E) = fun vs H1 => sp vs H1 Q E:=by
    funext vs H1
    rw [List.append_nil]
  rw [e]; exact k
theorem r_CB {r} {tr:TA} (k:tr σ H fun vs H1 => r vs H1 Q):tCB r tr σ H Q:=k
theorem r_par {n m:Nat} {ta:TA} (k:ta σ H fun vs H1 => ∃ v w,vs = [v,w] /\ D.nx ((σ.set n (some v)).set m (some w)) H1):tPar n m ta D σ H:=k
theorem r_eqI (k:Q (.bl (decide (i = j))) H):rEq (.int i) (.int j) H Q:=⟨rfl,by rw [dec_int,Bool.beq_eq_decide_eq]; exact k⟩
theorem r_neI (k:Q (.bl (!decide (i = j))) H):rNe (.int i) (.int j) H Q:=⟨rfl,by rw [dec_int,Bool.beq_eq_decide_eq]; exact k⟩
theorem r_eqB (k:Q (.bl (b == c)) H):rEq (.bl b) (.bl c) H Q:=⟨rfl,by rw [dec_bl]; exact k⟩
theorem r_neB (k:Q (.bl (!(b == c))) H):rNe (.bl b) (.bl c) H Q:=⟨rfl,by rw [dec_bl]; exact k⟩
theorem r_isB (k:Q (.bl (b == c)) H):rIsB (.bl b) (.bl c) H Q:=⟨b,c,rfl,rfl,k⟩
theorem r_isNB (k:Q (.bl (b != c)) H):rIsNB (.bl b) (.bl c) H Q:=⟨b,c,rfl,rfl,k⟩
theorem r_ixL {p:Addr} {xs:List V} (h:SqL K H p xs) (e:atI xs i = some v) (k:Q v H):rIxL K (.ref p) (.int i) H Q:=⟨p,xs,i,v,rfl,rfl,h,e,k⟩
theorem r_ixT {p:Addr} {xs:List V} (h:SqT K H p xs) (e:atI xs i = some v) (k:Q v H):rIxT K (.ref p) (.int i) H Q:=⟨p,xs,i,v,rfl,rfl,h,e,k⟩
noncomputable def rIxLT (K:PySem.W.Frag):R2:=fun x y H Q => rIxL K x y H Q ∨ rIxT K x y H Q ∨ rIxS x y H Q
theorem ix_LT:IxR X (rIxLT X.K):=ix_seq
theorem r_ixl {p:Addr} {xs:List V} (h:H p = some (.lst xs)) (e:atI xs i = some v) (k:Q v H):rIxLT K (.ref p) (.int i) H Q:=.inl (r_ixL (SqL.of h) e k)
theorem r_ixt {p:Addr} {xs:List V} (h:H p = some (.tup xs)) (e:atI xs i = some v) (k:Q v H):rIxLT K (.ref p) (.int i) H Q:=.inr (.inl (r_ixT (SqT.of h) e k))
theorem i_T {A B:Prop} (h:A):if true = true then A else B:=iteT h
theorem i_F {A B:Prop} (h:B):if false = true then A else B:=iteF h
theorem i_dT {p A B:Prop} [Decidable p] (hp:p) (h:A):if decide p = true then A else B:=by rw [decide_eq_true hp]; exact iteT h
theorem i_dF {p A B:Prop} [Decidable p] (hp:¬ p) (h:B):if decide p = true then A else B:=by rw [decide_eq_false hp]; exact iteF h
theorem i_d {p A B:Prop} [Decidable p] (h1:p -> A) (h2:¬ p -> B):if decide p = true then A else B:=by
  by_cases h:p
  . exact i_dT h (h1 h)
  . exact i_dF h (h2 h)
theorem i_flip {A B:Prop} (h:if b = true then B else A):if (!b) = true then A else B:=by cases b <;> exact h
end
noncomputable def Kp (p:Addr) (H H':Hp):Prop:=∀ b o,b ≠ p -> H b = some o -> H' b = some o
theorem Kp.refl (p:Addr) (H:Hp):Kp p H H:=fun _ _ _ h => h
theorem Kp.trans {p:Addr} {H H1 H2:Hp} (a:Kp p H H1) (b:Kp p H1 H2):Kp p H H2:=fun c o n h => b c o n (a c o n h)
theorem Kp.upd {p:Addr} {H:Hp} {o:HO}:Kp p H (upd H p o):=fun c u n h => by rw [upd_ne n]; exact h
theorem Kp.new {p q:Addr} {H:Hp} {o:HO} (hq:H q = none):Kp p H (L2.upd H q o):=fun c u n h => by rw [upd_ne (ne_of_none h hq)]; exact h
theorem Same.new {q:Addr} {H:Hp} {o:HO} (hq:H q = none):Same H (upd H q o):=fun c u h => by rw [upd_ne (ne_of_none h hq)]; exact h
theorem Same.kp {p:Addr} {H H':Hp} (s:Same H H'):Kp p H H':=fun c o _ h => s c o h
theorem Kp.tup {p q:Addr} {H H':Hp} {xs ys:List V} (k:Kp p H H') (hp:H p = some (.lst ys)) (hq:H q = some (.tup xs)):H' q = some (.tup xs) :=
  k q _ (ne_of hq hp (by intro z; cases z)) hq
theorem Kp.seq {K:PySem.W.Frag} {p a:Addr} {H H':Hp} {xs:List V} (e:Kp p H H') (n:a ≠ p) (h:SqL K H a xs):SqL K H' a xs:=by
  rcases h with (h | ⟨o,h⟩) | h
  . exact .inl (.inl (e _ _ n h))
  . exact .inl (.inr ⟨o,e _ _ n h⟩)
  . exact .inr h
noncomputable def Fr2 (H:Hp) (v:V) (a b:Int):Prop:=∃ q,v = .ref q /\ H q = some (.tup [.int a,.int b])
theorem Fr2.same {H H':Hp} {v:V} {a b:Int} (h:Fr2 H v a b) (s:Same H H'):Fr2 H' v a b:=let ⟨q,e,h⟩:=h; ⟨q,e,s _ _ h⟩
noncomputable def St3 (H:Hp) (p:Addr) (n:Int):Prop:=∃ a b c:Int,H p = some (.lst [.int a,.int b,.int c]) /\ 0 <= a /\ 0 <= b /\ b <= n
theorem St3.mono {H:Hp} {p:Addr} {m n:Int} (h:St3 H p m) (l:m <= n):St3 H p n:=let ⟨a,b,c,h,x,y,z⟩:=h; ⟨a,b,c,h,x,y,Int.le_trans z l⟩
theorem St3.ne {H:Hp} {p q:Addr} {n:Int} {xs:List V} (h:St3 H p n) (hq:H q = some (.tup xs)):q ≠ p:=let ⟨_,_,_,h,_⟩:=h; ne_of hq h (by intro z; cases z)
theorem Fr2.kp {H H':Hp} {p:Addr} {v:V} {a b n:Int} (h:Fr2 H v a b) (s:St3 H p n) (k:Kp p H H'):Fr2 H' v a b :=
  let ⟨q,e,h⟩:=h; ⟨q,e,k _ _ (s.ne h) h⟩
theorem St3.new {H:Hp} {p q:Addr} {n:Int} {o:HO} (h:St3 H p n) (hq:H q = none):St3 (upd H q o) p n :=
  let ⟨a,b,c,h,x⟩:=h; ⟨a,b,c,Same.new hq _ _ h,x⟩
theorem Fr2.new {H:Hp} {q:Addr} {v:V} {a b:Int} {o:HO} (h:Fr2 H v a b) (hq:H q = none):Fr2 (upd H q o) v a b:=h.same (Same.new hq)
structure Df (K:PySem.W.Frag) (mg:Str -> Option Value) (x:Str) (st:Stmt) (ps:List Str):Prop where
  ex:∃ (f:Addr) (fd:FuncData),(∃ (oc:Value) (od:Option Addr) (dV kV doc pm:Value) (an:Option Addr) (cdv ct:Value) (osl:Array (Option Value)),
    fd = PySem.W.fnOf x x (defArgs st) (defBody st) (defScope st) dV kV doc pm an cdv ct /\ K.lookup f = some ⟨oc,od,.func fd,osl⟩ /\ PySem.W.codeIn K cdv x = true) /\ PySem.W.keepIn K (.ref f) = true /\ mg x = some (.ref f) /\ Binds K fd ps []
structure Okf (P:Program) (w:World) (K:PySem.W.Frag) (mg:Str -> Option Value) (base:Heap) (k:Nat) (x:Str) (ps:List Str) (sp:Sp):Prop where
  ex:∃ (f:Addr) (fd:FuncData),mg x = some (.ref f) /\ PySem.W.keepIn K (.ref f) = true /\ Binds K fd ps [] /\ FnOk P w K mg base CX0 k f fd ps sp
theorem Okf.mono {P:Program} {w:World} {K:PySem.W.Frag} {mg:Str -> Option Value} {base:Heap} {j k:Nat} {x:Str} {ps:List Str} {sp:Sp} (o:Okf P w K mg base j x ps sp) (h:j <= k):Okf P w K mg base k x ps sp :=
  let ⟨f,fd,a,b,c,d⟩:=o.ex; ⟨f,fd,a,b,c,d.mono h⟩
theorem Okf.of {P:Program} {w:World} {K:PySem.W.Frag} {mg:Str -> Option Value} {base:Heap} {k:Nat} {x:Str} {st:Stmt} {N ps:List Str} {sp:Sp} (d:Df K mg x st ps) (S:FnScope N ps (defScope st)) (len:∀ vs H Q E,sp vs H Q E -> vs.length = ps.length)
    (hbody:∀ (f:Addr) (cdv:Value) (A:Around) (outer:List Env) (s:Shared) (H:Hp) (vs:List V) (Q:VK) (E:XK),Room k (A.deeper (envOfC x (defScope st) s.heap.objs.size f cdv)) -> sp vs H Q E ->
      ∃ t,PSs (cxOf CX0 P w K mg base N x (defScope st) f cdv A outer s H E).nox (defBody st) t /\ t { nx:=fun _ H' => Q .non H',rt:=Q } (start N vs) H):Okf P w K mg base (k + 1) x ps sp:=by
  obtain ⟨f,fd,⟨oc,od,dV,kV,doc,pm,an,cdv,ct,osl,rfl,lk,hcd⟩,kp,a,b⟩:=d.ex
  refine ⟨f,_,a,kp,b,fn_of lk hcd S len fun A outer s H vs Q E hr hsp => ?_⟩
  obtain ⟨t,h,q⟩:=hbody f cdv A outer s H vs Q E hr hsp
  exact ⟨t,h.nox,q⟩
theorem df_mk {K:PySem.W.Frag} {mg:Str -> Option Value} {h:Heap} {x:Str} {st:Stmt} {ps:List Str} {f:Addr} {oc:Value} {od an:Option Addr} {osl:Array (Option Value)} {dV kV doc pm cdv ct:Value} (X:K.In h) (G:h.Ns mainGlobals mg)
    (a:PySem.W.nsIn K mainGlobals x = some (some (.ref f))) (l:K.lookup f = some ⟨oc,od,.func (PySem.W.fnOf x x (defArgs st) (defBody st) (defScope st) dV kV doc pm an cdv ct),osl⟩)
    (c:PySem.W.codeIn K cdv x = true) (k:PySem.W.keepIn K (.ref f) = true)
    (b:∀ us:List Value,us.length = ps.length -> bindArgs (PySem.W.fnOf x x (defArgs st) (defBody st) (defScope st) dV kV doc pm an cdv ct) ⟨us,[]⟩ = pure (ps.zip us)):Df K mg x st ps :=
  ⟨f,_,⟨oc,od,dV,kV,doc,pm,an,cdv,ct,osl,rfl,l,c⟩,k,PySem.W.mg_of X G a,.all b⟩
structure DfD (K:PySem.W.Frag) (mg:Str -> Option Value) (x:Str) (st:Stmt) (ps:List Str) (dvs:List V):Prop where
  ex:∃ (f:Addr) (fd:FuncData),(∃ (oc:Value) (od:Option Addr) (dV kV doc pm:Value) (an:Option Addr) (cdv ct:Value) (osl:Array (Option Value)),
    fd = PySem.W.fnOf x x (defArgs st) (defBody st) (defScope st) dV kV doc pm an cdv ct /\ K.lookup f = some ⟨oc,od,.func fd,osl⟩ /\ PySem.W.codeIn K cdv x = true) /\ PySem.W.keepIn K (.ref f) = true /\ mg x = some (.ref f) /\ Binds K fd ps [] /\ ∃ ds,Vals dvs ds /\ Binds K fd ps ds
structure OkfD (P:Program) (w:World) (K:PySem.W.Frag) (mg:Str -> Option Value) (base:Heap) (k:Nat) (x:Str) (ps:List Str) (dvs:List V) (sp:Sp):Prop where
  ex:∃ (f:Addr) (fd:FuncData),mg x = some (.ref f) /\ PySem.W.keepIn K (.ref f) = true /\ Binds K fd ps [] /\ (∃ ds,Vals dvs ds /\ Binds K fd ps ds) /\ FnOk P w K mg base CX0 k f fd ps sp
theorem OkfD.mono {P:Program} {w:World} {K:PySem.W.Frag} {mg:Str -> Option Value} {base:Heap} {j k:Nat} {x:Str} {ps:List Str} {dvs:List V} {sp:Sp} (o:OkfD P w K mg base j x ps dvs sp) (h:j <= k):OkfD P w K mg base k x ps dvs sp :=
  let ⟨f,fd,a,b,c,e,d⟩:=o.ex; ⟨f,fd,a,b,c,e,d.mono h⟩
theorem OkfD.f {P:Program} {w:World} {K:PySem.W.Frag} {mg:Str -> Option Value} {base:Heap} {k:Nat} {x:Str} {ps:List Str} {dvs:List V} {sp:Sp} (o:OkfD P w K mg base k x ps dvs sp):Okf P w K mg base k x ps sp :=
  let ⟨f,fd,a,b,c,_,d⟩:=o.ex; ⟨f,fd,a,b,c,d⟩
theorem OkfD.of {P:Program} {w:World} {K:PySem.W.Frag} {mg:Str -> Option Value} {base:Heap} {k:Nat} {x:Str} {st:Stmt} {N ps:List Str} {dvs:List V} {sp:Sp} (d:DfD K mg x st ps dvs) (S:FnScope N ps (defScope st)) (len:∀ vs H Q E,sp vs H Q E -> vs.length = ps.length)
    (hbody:∀ (f:Addr) (cdv:Value) (A:Around) (outer:List Env) (s:Shared) (H:Hp) (vs:List V) (Q:VK) (E:XK),Room k (A.deeper (envOfC x (defScope st) s.heap.objs.size f cdv)) -> sp vs H Q E ->
      ∃ t,PSs (cxOf CX0 P w K mg base N x (defScope st) f cdv A outer s H E).nox (defBody st) t /\ t { nx:=fun _ H' => Q .non H',rt:=Q } (start N vs) H):OkfD P w K mg base (k + 1) x ps dvs sp:=by
  obtain ⟨f,fd,⟨oc,od,dV,kV,doc,pm,an,cdv,ct,osl,rfl,lk,hcd⟩,kp,a,b,b2⟩:=d.ex
  refine ⟨f,_,a,kp,b,b2,fn_of lk hcd S len fun A outer s H vs Q E hr hsp => ?_⟩
  obtain ⟨t,h,q⟩:=hbody f cdv A outer s H vs Q E hr hsp
  exact ⟨t,h.nox,q⟩
section
variable {X:Cx} {k:Nat} {x:Str} {ps:List Str} {dvs:List V} {sp:Sp} {p pos:Pos} {e:Expr} {es:List Expr} {t:TA}
theorem r_callD {σ:St} {H:Hp} {Q:VK} {E:XK} {tr:TA} (k:tr σ H fun vs H1 => sp (vs ++ dvs) H1 Q E):tCall sp dvs E tr σ H Q:=k
end
section
variable {X:Cx} {k:Nat} {x:Str} {ps:List Str} {sp:Sp} {p pos:Pos} {e:Expr} {es:List Expr} {t:TA}
theorem pe_callO (o:Okf X.prog X.w X.K X.mg X.base k x ps sp) (hr:Room k X.A) (hg:Gl X x) (ha:PA X (e :: es) t) (hdb:(x == ("__debug__":Str)) = false:=by decide)
    (he:starEach (e :: es) X.env = (false,eval e X.env) :: starEach es X.env:=by rfl) (hpl:(backTo pos (starEach es X.env)).any (·.1) = false:=by rfl) :
    PE X (.Call (.Name x p) (e :: es) [] pos) (tCall sp [] E0 t):=by
  obtain ⟨f,fd,a,b,c,d⟩:=o.ex
  exact pe_call d hr hg a b c .nil pass0 ha hdb he hpl
end
section
variable {σ:St} {H:Hp} {Q:VK} {D:Ends} {v:V} {i j:Int} {K:PySem.W.Frag}
theorem r_ixs {p:Addr} {xs:List V} (h:SqL K H p xs) (e:atI xs i = some v) (k:Q v H):rIxLT K (.ref p) (.int i) H Q:=.inl (r_ixL h e k)
theorem r_mod (h:0 < j) (k:Q (.int (i % j)) H):rI (fun _ j => 0 < j) (fun i j => .int (i % j)) (.int i) (.int j) H Q:=r_I h k
theorem r_mul (h:CMulB i j) (k:Q (.int (i * j)) H):rI CMulB (fun i j => .int (i * j)) (.int i) (.int j) H Q:=r_I h k
theorem CDivB.of (h0:0 < j) (h1:j < 2 ^ 64):CDivB i j:=⟨by omega,Sm.mono (m:=64) (Sm.of (by omega) (by omega)) (by decide)⟩
theorem r_fdiv (h:CDivB i j) (k:Q (.int (i.fdiv j)) H):rI CDivB (fun i j => .int (i.fdiv j)) (.int i) (.int j) H Q:=r_I h k
theorem r_pow18 (k:Q (.int 1000000000000000000) H):rI CPow (fun i j => .int (i ^ j.toNat)) (.int 10) (.int 18) H Q:=r_I ⟨by decide,by decide,by decide⟩ k
theorem r_pow9 (k:Q (.int 1000000000) H):rI CPow (fun i j => .int (i ^ j.toNat)) (.int 10) (.int 9) H Q:=r_I ⟨by decide,by decide,by decide⟩ k
theorem r_gsub {to ti:TE} {t:TSet} {R:St -> Hp -> Prop} (k:to σ H fun o H1 => ti σ H1 fun i H2 => t o i v H2 fun H3 => R σ H3):gSub to ti t v σ H R:=k
theorem r_parK {n m:Nat} {w:V} (k:D.nx ((σ.set n (some v)).set m (some w)) H):∃ v' w',[v,w] = [v',w'] /\ D.nx ((σ.set n (some v')).set m (some w')) H:=⟨v,w,rfl,k⟩
theorem SqL.kp {p a:Addr} {H H0 H':Hp} {xs:List V} (h:SqL K H0 a xs) (hp:H0 p = none) (e:Kp p H0 H'):SqL K H' a xs:=by
  rcases h with (h | ⟨o,h⟩) | h
  . exact .inl (.inl (e _ _ (ne_of_none h hp) h))
  . exact .inl (.inr ⟨o,e _ _ (ne_of_none h hp) h⟩)
  . exact .inr h
end
theorem bt_list:bootBuiltins "list" = some (.type "list"):=by decide +kernel
theorem bt_enumerate:bootBuiltins "enumerate" = some (.type "enumerate"):=by decide +kernel
theorem bt_zip:bootBuiltins "zip" = some (.type "zip"):=by decide +kernel
theorem bt_reversed:bootBuiltins "reversed" = some (.type "reversed"):=by decide +kernel
theorem bt_len:bootBuiltins "len" = some (.builtin "len"):=by decide +kernel
theorem bt_abs:bootBuiltins "abs" = some (.builtin "abs"):=by decide +kernel
theorem bt_min:bootBuiltins "min" = some (.builtin "min"):=by decide +kernel
theorem bt_isinstance:bootBuiltins "isinstance" = some (.builtin "isinstance"):=by decide +kernel
theorem bt_sorted:bootBuiltins "sorted" = some (.builtin "sorted"):=by decide +kernel
structure Bl (mg:Str -> Option Value):Prop where
  z_int:mg "int" = none
  z_bool:mg "bool" = none
  z_str:mg "str" = none
  z_list:mg "list" = none
  z_tuple:mg "tuple" = none
  z_dict:mg "dict" = none
  z_set:mg "set" = none
  z_range:mg "range" = none
  z_enumerate:mg "enumerate" = none
  z_zip:mg "zip" = none
  z_reversed:mg "reversed" = none
  z_len:mg "len" = none
  z_abs:mg "abs" = none
  z_max:mg "max" = none
  z_min:mg "min" = none
  z_isinstance:mg "isinstance" = none
  z_sorted:mg "sorted" = none
  z_all:mg "all" = none
  z_any:mg "any" = none
  z_sum:mg "sum" = none
section
variable {K:PySem.W.Frag} {H:Hp} {Q:VK}
theorem kit_bool_tuple:PySem.W.kitOne K (.type "bool") (.type "tuple") = some false:=by first | rfl | with_unfolding_all rfl | decide
theorem kit_int_tuple:PySem.W.kitOne K (.type "int") (.type "tuple") = some false:=by first | rfl | with_unfolding_all rfl | decide
theorem kit_str_tuple:PySem.W.kitOne K (.type "str") (.type "tuple") = some false:=by first | rfl | with_unfolding_all rfl | decide
theorem kit_list_tuple:PySem.W.kitOne K (.type "list") (.type "tuple") = some false:=by first | rfl | with_unfolding_all rfl | decide
theorem kit_NoneType_tuple:PySem.W.kitOne K (.type "NoneType") (.type "tuple") = some false:=by first | rfl | with_unfolding_all rfl | decide
end
section
variable {X:Cx} {K:PySem.W.Frag} {σ:St} {H:Hp} {Q:VK} {D:Ends} {i j:Int} {b:Bool}
noncomputable def rAbs:List V -> Hp -> VK -> Prop:=fun xs H Q => ∃ i,xs = [.int i] /\ Q (.int (if i < 0 then -i else i)) H
theorem c_abs:CallR X (.builtin "abs") rAbs:=call_abs
theorem r_abs (k:Q (.int (if i < 0 then -i else i)) H):rAbs [.int i] H Q:=⟨i,rfl,k⟩
noncomputable def rMax2:List V -> Hp -> VK -> Prop:=fun xs H Q => ∃ i j,xs = [.int i,.int j] /\ Q (.int (if j > i then j else i)) H
theorem r_max (k:Q (.int (if j > i then j else i)) H):rMax2 [.int i,.int j] H Q:=⟨i,j,rfl,k⟩
noncomputable def rMin2:List V -> Hp -> VK -> Prop:=fun xs H Q => ∃ i j,xs = [.int i,.int j] /\ Q (.int (if j < i then j else i)) H
theorem r_min (k:Q (.int (if j < i then j else i)) H):rMin2 [.int i,.int j] H Q:=⟨i,j,rfl,k⟩
noncomputable def rLen (K:PySem.W.Frag):List V -> Hp -> VK -> Prop:=fun xs H Q => ∃ x n,xs = [x] /\ LenV K x H n /\ Q (.int n) H
theorem c_len:CallR X (.builtin "len") (rLen X.K):=call_len
theorem r_lenL {p:Addr} {xs:List V} (h:SqL K H p xs) (k:Q (.int xs.length) H):rLen K [.ref p] H Q:=⟨_,_,rfl,.inl ⟨xs,h,rfl⟩,k⟩
theorem r_lenl {p:Addr} {xs:List V} (h:H p = some (.lst xs)) (k:Q (.int xs.length) H):rLen K [.ref p] H Q:=r_lenL (SqL.of h) k
theorem r_lent {p:Addr} {xs:List V} (h:H p = some (.tup xs)) (k:Q (.int xs.length) H):rLen K [.ref p] H Q:=⟨_,_,rfl,.inr ⟨xs,SqT.of h,rfl⟩,k⟩
noncomputable def rInt1:List V -> Hp -> VK -> Prop:=fun xs H Q => (∃ i,xs = [.int i] /\ Q (.int i) H) ∨ ∃ k,xs = [.bl k] /\ Q (.int (if k then 1 else 0)) H
theorem r_intB (k:Q (.int (if b then 1 else 0)) H):rInt1 [.bl b] H Q:=.inr ⟨b,rfl,k⟩
noncomputable def forK (g:TG) (tb:TS) (D:Ends) (σ:St):It -> Hp -> Prop:=fun J H1 => ∃ W:Nat -> Nat -> St -> Hp -> Prop,(∃ m,W 0 m σ H1) /\ ∀ i m σ H,W i m σ H ->
  (J.stop i H /\ D.nx σ H) ∨ (J.go i H /\ ∃ N:St -> Hp -> Prop,(∀ σ' H',N σ' H' -> ∃ m',m' < m /\ W (i + 1) m' σ' H') /\ ∀ x H',J.yld i H x H' -> g x σ H' fun σ2 H2 => tb { D with nx:=N,ct:=N,bk:=D.nx } σ2 H2)
theorem r_for {wi:TI} {g:TG} {tb:TS} (k:wi σ H (forK g tb D σ)):tFor wi g tb D σ H:=k
noncomputable def rng1K (R:It -> Hp -> Prop):List V -> Hp -> Prop:=fun vs H1 => ∃ j:Int,vs = [.int j] /\ -(2 ^ 62) <= j /\ j < 2 ^ 62 /\ R (Itr 0 j.toNat) H1
noncomputable def rng2K (R:It -> Hp -> Prop):List V -> Hp -> Prop:=fun vs H1 => ∃ i j:Int,vs = [.int i,.int j] /\ (-(2 ^ 62) <= i /\ i < 2 ^ 62 /\ -(2 ^ 62) <= j /\ j < 2 ^ 62) /\ R (Itr i (j - i).toNat) H1
theorem r_rng1 {ta:TA} {R:It -> Hp -> Prop} (k:ta σ H (rng1K R)):iRng1 ta σ H R:=k
theorem r_rng2 {ta:TA} {R:It -> Hp -> Prop} (k:ta σ H (rng2K R)):iRng2 ta σ H R:=k
theorem r_forR {lo:Int} {n:Nat} {g:TG} {tb:TS} (Pv:Nat -> St -> Hp -> Prop) (h0:Pv 0 σ H)
    (hs:∀ i σ H,i < n -> Pv i σ H -> g (.int (lo + i)) σ H fun σ2 H2 => tb ⟨Pv (i + 1),D.rt,D.nx,Pv (i + 1)⟩ σ2 H2) (hd:∀ σ H,Pv n σ H -> D.nx σ H):forK g tb D σ (Itr lo n) H:=for_range Pv h0 hs hd
noncomputable def listK (K:PySem.W.Frag) (R:It -> Hp -> Prop):VK:=fun x H1 => ∃ a,x = .ref a /\ (∃ xs,SqL K H1 a xs) /\ R (Itl K a) H1
theorem r_iList {tl:TE} {R:It -> Hp -> Prop} (k:tl σ H (listK K R)):iList K tl σ H R:=k
theorem r_listK {a:Addr} {xs:List V} {R:It -> Hp -> Prop} (h:SqL K H a xs) (k:R (Itl K a) H):listK K R (.ref a) H:=⟨a,rfl,⟨xs,h⟩,k⟩
theorem r_forL {a:Addr} {xs:List V} {g:TG} {tb:TS} (Pv:Nat -> St -> Hp -> Prop) (h0:Pv 0 σ H) (hl:∀ i σ H,i <= xs.length -> Pv i σ H -> SqL K H a xs)
    (hs:∀ i x σ H,xs[i]? = some x -> Pv i σ H -> g x σ H fun σ2 H2 => tb ⟨Pv (i + 1),D.rt,D.nx,Pv (i + 1)⟩ σ2 H2) (hd:∀ σ H,Pv xs.length σ H -> D.nx σ H):forK g tb D σ (Itl K a) H:=for_list Pv h0 hl hs hd
end
end L2
namespace L2
open PySem
noncomputable def sg (t b:Int):Int:=if b < 0 then 0 - (Int.gcd t b:Int) else (Int.gcd t b:Int)
noncomputable def lowT (t b:Int):Int:=t.fdiv (sg t b)
noncomputable def lowB (t b:Int):Int:=b.fdiv (sg t b)
theorem gcd_pos {t b:Int} (h:b ≠ 0):0 < Int.gcd t b:=Nat.pos_of_ne_zero fun e => h (Int.gcd_eq_zero_iff.mp e).2
theorem sg_ne {t b:Int} (h:b ≠ 0):sg t b ≠ 0:=by
  have:=gcd_pos (t:=t) h
  unfold sg
  split <;> omega
theorem sg_dvd_l (t b:Int):sg t b ∣ t:=by
  unfold sg
  split
  . exact (Int.zero_sub _ ▸ Int.neg_dvd.mpr (Int.gcd_dvd_left ..))
  . exact Int.gcd_dvd_left ..
theorem sg_dvd_r (t b:Int):sg t b ∣ b:=by
  unfold sg
  split
  . exact (Int.zero_sub _ ▸ Int.neg_dvd.mpr (Int.gcd_dvd_right ..))
  . exact Int.gcd_dvd_right ..
theorem fdiv_of {a g:Int} (hg:g ≠ 0) (h:g ∣ a):a.fdiv g * g = a:=by
  obtain ⟨c,rfl⟩:=h
  rw [Int.mul_fdiv_cancel_left _ hg,Int.mul_comm]
theorem lowT_mul {t b:Int} (h:b ≠ 0):lowT t b * sg t b = t:=fdiv_of (sg_ne h) (sg_dvd_l t b)
theorem lowB_mul {t b:Int} (h:b ≠ 0):lowB t b * sg t b = b:=fdiv_of (sg_ne h) (sg_dvd_r t b)
theorem sg_natAbs (t b:Int):(sg t b).natAbs = Int.gcd t b:=by
  unfold sg
  split <;> omega
theorem lowB_pos {t b:Int} (h:b ≠ 0):0 < lowB t b:=by
  have e:=lowB_mul (t:=t) h
  have hp:=gcd_pos (t:=t) h
  by_cases hb:b < 0
  . have hs:sg t b < 0:=by unfold sg; rw [if_pos hb]; omega
    rcases Int.lt_or_le 0 (lowB t b) with q | q
    . exact q
    . have:0 <= lowB t b * sg t b:=Int.mul_nonneg_of_nonpos_of_nonpos q (Int.le_of_lt hs)
      omega
  . have hs:0 < sg t b:=by unfold sg; rw [if_neg hb]; omega
    rcases Int.lt_or_le 0 (lowB t b) with q | q
    . exact q
    . have:lowB t b * sg t b <= 0:=Int.mul_nonpos_of_nonpos_of_nonneg q (Int.le_of_lt hs)
      omega
theorem low_cop {t b:Int} (h:b ≠ 0):Int.gcd (lowT t b) (lowB t b) = 1:=by
  have e1:=lowT_mul (t:=t) h
  have e2:=lowB_mul (t:=t) h
  have hp:=gcd_pos (t:=t) h
  have e:Int.gcd (lowT t b * sg t b) (lowB t b * sg t b) = Int.gcd (lowT t b) (lowB t b) * (sg t b).natAbs:=Int.gcd_mul_right ..
  rw [e1,e2,sg_natAbs] at e
  have:1 * Int.gcd t b = Int.gcd (lowT t b) (lowB t b) * Int.gcd t b:=by omega
  exact (Nat.eq_of_mul_eq_mul_right hp this).symm
theorem low_cross {t b:Int} (h:b ≠ 0):t * lowB t b = b * lowT t b:=by
  have e1:=lowT_mul (t:=t) h
  have e2:=lowB_mul (t:=t) h
  calc t * lowB t b = (lowT t b * sg t b) * lowB t b:=by rw [e1]
    _ = (lowB t b * sg t b) * lowT t b:=by rw [Int.mul_assoc,Int.mul_comm (sg t b),← Int.mul_assoc,Int.mul_comm (lowT t b),Int.mul_assoc,Int.mul_comm (lowT t b),← Int.mul_assoc]
    _ = b * lowT t b:=by rw [e2]
theorem natAbs_le_of_mul {a g c:Int} (hg:g ≠ 0) (e:a * g = c):a.natAbs <= c.natAbs:=by
  rw [← e,Int.natAbs_mul]
  exact Nat.le_mul_of_pos_right _ (by omega)
theorem gcd_step {one other:Int} (h:0 < other):Int.gcd other (one % other) = Int.gcd one other:=by
  have e:one % other = one - (one / other) * other:=by rw [Int.emod_def,Int.mul_comm]
  rw [e,Int.gcd_comm other,Int.gcd_sub_mul_right_left]
theorem gcd_stepN {one other:Int} (h:other ≠ 0):Int.gcd other (one.fmod other) = Int.gcd one other:=by
  have e:one.fmod other = one - (one.fdiv other) * other:=by rw [Int.fmod_def,Int.mul_comm]
  rw [e,Int.gcd_comm other,Int.gcd_sub_mul_right_left]
theorem dvd_cop {k n m:Int} (h:k ∣ n * m) (g:Int.gcd k n = 1):k ∣ m:=by
  have q:=Int.dvd_gcd_mul_iff_dvd_mul.mpr h
  rw [g] at q
  simpa using q
theorem low_uniq {a b c d:Int} (hb:0 < b) (hd:0 < d) (h1:Int.gcd a b = 1) (h2:Int.gcd c d = 1) (e:a * d = c * b):a = c /\ b = d:=by
  have k1:b ∣ d:=by
    have:b ∣ a * d:=⟨c,by rw [e,Int.mul_comm]⟩
    exact dvd_cop this (by rw [Int.gcd_comm]; exact h1)
  have k2:d ∣ b:=by
    have:d ∣ c * b:=⟨a,by rw [← e,Int.mul_comm]⟩
    exact dvd_cop this (by rw [Int.gcd_comm]; exact h2)
  have eb:b = d:=by
    have:=Int.le_of_dvd hd k1
    have:=Int.le_of_dvd hb k2
    omega
  subst eb
  exact ⟨Int.eq_of_mul_eq_mul_right (by omega) e,rfl⟩
theorem pick {ns:List Int} {i:Int} (h0:0 <= i) (h1:i < ns.length):∃ z,z ∈ ns /\ atI (ns.map V.int) i = some (.int z):=by
  have hk:i.toNat < ns.length:=by omega
  have ek:i = ((i.toNat:Nat):Int):=by omega
  have q:atI (ns.map V.int) ((i.toNat:Nat):Int) = some (.int ns[i.toNat]):=atI_nat (by rw [List.getElem?_map,List.getElem?_eq_getElem hk] <;> rfl)
  rw [← ek] at q
  exact ⟨ns[i.toNat],List.getElem_mem hk,q⟩
theorem r_modN {i j:Int} {H:Hp} {Q:VK} (h:j ≠ 0) (k:Q (.int (i.fmod j)) H):rI (fun _ j => j ≠ 0) (fun i j => .int (i.fmod j)) (.int i) (.int j) H Q:=r_I h k
theorem fmod_lt {a b:Int} (h:b ≠ 0):(a.fmod b).natAbs < b.natAbs:=by
  have e:=Int.fmod_eq_emod (a:=a) (b:=b)
  have h1:=Int.emod_nonneg a h
  have h2:=Int.emod_lt a h
  rw [e]
  by_cases hc:0 <= b ∨ b ∣ a
  . rw [if_pos hc]
    omega
  . rw [if_neg hc]
    have h3:a % b ≠ 0:=fun z => hc (.inr (Int.dvd_of_emod_eq_zero z))
    omega
theorem low_worth {t b:Int} (h:b ≠ 0):lowT t b * b = t * lowB t b:=by rw [low_cross h,Int.mul_comm]
theorem low_of {t b f g:Int} (hb:b ≠ 0) (hg:0 < g) (hc:Int.gcd f g = 1) (e:f * b = t * g):f = lowT t b /\ g = lowB t b:=by
  have e1:=low_worth (t:=t) hb
  have hp:=lowB_pos (t:=t) hb
  refine low_uniq hg hp hc (low_cop hb) ?_
  have:(f * lowB t b) * b = (lowT t b * g) * b:=by
    have a1:(f * lowB t b) * b = (f * b) * lowB t b:=by rw [Int.mul_assoc,Int.mul_comm (lowB t b),← Int.mul_assoc]
    have a2:(lowT t b * g) * b = (lowT t b * b) * g:=by rw [Int.mul_assoc,Int.mul_comm g,← Int.mul_assoc]
    rw [a1,a2,e,e1,Int.mul_assoc,Int.mul_comm g,← Int.mul_assoc]
  exact Int.eq_of_mul_eq_mul_right hb this
structure Fq (H:Hp) (v:V) (a b:Int) (n:Nat):Prop where
  st:Fr2 H v a b
  pos:0 < b
  cop:Int.gcd a b = 1
  sa:Sm n a
  sb:Sm n b
theorem Fq.same {H H':Hp} {v:V} {a b:Int} {n:Nat} (h:Fq H v a b n) (s:Same H H'):Fq H' v a b n:=⟨h.st.same s,h.pos,h.cop,h.sa,h.sb⟩
theorem Fq.mono {H:Hp} {v:V} {a b:Int} {m n:Nat} (h:Fq H v a b m) (l:m <= n):Fq H v a b n:=⟨h.st,h.pos,h.cop,h.sa.mono l,h.sb.mono l⟩
end L2
namespace L2
open PySem PySem.Spec PyProof.Rows
inductive Dt where
  | non | bl (b:Bool) | int (i:Int) | str (x:Str) | tup (xs:List Dt) | lst (xs:List Dt)
mutual
noncomputable def Den (H:Hp):Dt -> V -> Prop
  | .non,v => v = .non
  | .bl b,v => v = .bl b
  | .int i,v => v = .int i
  | .str x,v => v = .str x
  | .tup ds,v => ∃ p vs,v = .ref p /\ H p = some (.tup vs) /\ DenL H ds vs
  | .lst ds,v => ∃ p vs,v = .ref p /\ H p = some (.lst vs) /\ DenL H ds vs
noncomputable def DenL (H:Hp):List Dt -> List V -> Prop
  | [],vs => vs = []
  | d :: ds,vs => ∃ v r,vs = v :: r /\ Den H d v /\ DenL H ds r
end
mutual
noncomputable def deq:Dt -> Dt -> Bool
  | .non,.non => true
  | .bl a,.bl b => a == b
  | .bl a,.int b => (if a then 1 else 0) == b
  | .int a,.bl b => a == (if b then 1 else 0)
  | .int a,.int b => a == b
  | .str a,.str b => a == b
  | .tup xs,.tup ys => deqL xs ys
  | .lst xs,.lst ys => deqL xs ys
  | _,_ => false
noncomputable def deqL:List Dt -> List Dt -> Bool
  | [],[] => true
  | x :: xs,y :: ys => deq x y && deqL xs ys
  | _,_ => false
end
mutual
noncomputable def dep:Dt -> Nat
  | .tup xs => depL xs + 1
  | .lst xs => depL xs + 1
  | _ => 0
noncomputable def depL:List Dt -> Nat
  | [] => 0
  | x :: xs => max (dep x) (depL xs)
end
theorem DenL.length {H:Hp}:∀ {ds:List Dt} {vs:List V},DenL H ds vs -> ds.length = vs.length
  | [],vs,h => by rw [show vs = [] from h]; rfl
  | d :: ds,vs,h => by
    obtain ⟨v,r,rfl,_,t⟩:=h
    rw [List.length_cons,List.length_cons,DenL.length t]
mutual
theorem Den.same_eq {H:Hp}:∀ (d e:Dt) {x:V},Den H d x -> Den H e x -> deq d e = true
  | .tup ds,.tup es,x,h1,h2 => by
    obtain ⟨p,vs,rfl,a,b⟩:=h1
    obtain ⟨q,ws,e1,c,d⟩:=h2
    cases e1
    rw [a] at c
    cases c
    exact DenL.same_eq ds es b d
  | .lst ds,.lst es,x,h1,h2 => by
    obtain ⟨p,vs,rfl,a,b⟩:=h1
    obtain ⟨q,ws,e1,c,d⟩:=h2
    cases e1
    rw [a] at c
    cases c
    exact DenL.same_eq ds es b d
  | .tup ds,.lst es,x,h1,h2 => by
    obtain ⟨p,vs,rfl,a,b⟩:=h1
    obtain ⟨q,ws,e1,c,d⟩:=h2
    cases e1
    rw [a] at c
    cases c
  | .lst ds,.tup es,x,h1,h2 => by
    obtain ⟨p,vs,rfl,a,b⟩:=h1
    obtain ⟨q,ws,e1,c,d⟩:=h2
    cases e1
    rw [a] at c
    cases c
  | .non,e,x,h1,h2 => by
    have h1:x = .non:=h1
    subst h1
    cases e <;> first | rfl | (have h2:V.non = _:=h2; cases h2) | (obtain ⟨_,_,z,_⟩:=h2; cases z)
  | .bl b,e,x,h1,h2 => by
    have h1:x = .bl b:=h1
    subst h1
    cases e <;> first | (have h2:V.bl b = _:=h2; cases h2; exact beq_self_eq_true b) | (have h2:V.bl b = _:=h2; cases h2; done) | (obtain ⟨_,_,z,_⟩:=h2; cases z)
  | .int b,e,x,h1,h2 => by
    have h1:x = .int b:=h1
    subst h1
    cases e <;> first | (have h2:V.int b = _:=h2; cases h2; exact beq_self_eq_true b) | (have h2:V.int b = _:=h2; cases h2; done) | (obtain ⟨_,_,z,_⟩:=h2; cases z)
  | .str b,e,x,h1,h2 => by
    have h1:x = .str b:=h1
    subst h1
    cases e <;> first | (have h2:V.str b = _:=h2; cases h2; exact beq_self_eq_true b) | (have h2:V.str b = _:=h2; cases h2; done) | (obtain ⟨_,_,z,_⟩:=h2; cases z)
  | .tup ds,.non,x,h1,h2 => by obtain ⟨p,vs,rfl,_⟩:=h1; have h2:V.ref p = _:=h2; cases h2
  | .tup ds,.bl _,x,h1,h2 => by obtain ⟨p,vs,rfl,_⟩:=h1; have h2:V.ref p = _:=h2; cases h2
  | .tup ds,.int _,x,h1,h2 => by obtain ⟨p,vs,rfl,_⟩:=h1; have h2:V.ref p = _:=h2; cases h2
  | .tup ds,.str _,x,h1,h2 => by obtain ⟨p,vs,rfl,_⟩:=h1; have h2:V.ref p = _:=h2; cases h2
  | .lst ds,.non,x,h1,h2 => by obtain ⟨p,vs,rfl,_⟩:=h1; have h2:V.ref p = _:=h2; cases h2
  | .lst ds,.bl _,x,h1,h2 => by obtain ⟨p,vs,rfl,_⟩:=h1; have h2:V.ref p = _:=h2; cases h2
  | .lst ds,.int _,x,h1,h2 => by obtain ⟨p,vs,rfl,_⟩:=h1; have h2:V.ref p = _:=h2; cases h2
  | .lst ds,.str _,x,h1,h2 => by obtain ⟨p,vs,rfl,_⟩:=h1; have h2:V.ref p = _:=h2; cases h2
theorem DenL.same_eq {H:Hp}:∀ (ds es:List Dt) {xs:List V},DenL H ds xs -> DenL H es xs -> deqL ds es = true
  | [],[],xs,_,_ => rfl
  | [],e :: es,xs,h1,h2 => by
    have h1:xs = []:=h1
    subst h1
    obtain ⟨_,_,z,_⟩:=h2
    cases z
  | d :: ds,[],xs,h1,h2 => by
    have h2:xs = []:=h2
    subst h2
    obtain ⟨_,_,z,_⟩:=h1
    cases z
  | d :: ds,e :: es,xs,h1,h2 => by
    obtain ⟨v,r,rfl,a,b⟩:=h1
    obtain ⟨v',r',z,a',b'⟩:=h2
    cases z
    show (deq d e && deqL ds es) = true
    rw [Den.same_eq d e a a',DenL.same_eq ds es b b']
    rfl
end
noncomputable def nth (ds es:List Dt) (j:Nat):Bool:=match ds[j]?,es[j]? with
  | some d,some e => deq d e
  | _,_ => false
theorem deqL_all:∀ (ds es:List Dt),((List.range (min ds.length es.length)).all (nth ds es) && ds.length == es.length) = deqL ds es
  | [],[] => rfl
  | [],e :: es => by show (_ && (0 == es.length + 1)) = false; simp
  | d :: ds,[] => by show (_ && (ds.length + 1 == 0)) = false; simp
  | d :: ds,e :: es => by
    have ih:=deqL_all ds es
    show _ = (deq d e && deqL ds es)
    rw [← ih]
    have h1:min (d :: ds).length (e :: es).length = min ds.length es.length + 1:=by simp only [List.length_cons]; omega
    rw [h1,List.range_succ_eq_map,List.all_cons,List.all_map]
    have h2:(nth (d :: ds) (e :: es)) ∘ Nat.succ = nth ds es:=by funext j; rfl
    rw [h2]
    have h3:nth (d :: ds) (e :: es) 0 = deq d e:=rfl
    rw [h3]
    have h4:((d :: ds).length == (e :: es).length) = (ds.length == es.length):=by simp
    rw [h4,Bool.and_assoc]
section
variable {X:Cx} {pins:List (Addr×Obj)} {σ:St} {H:Hp} {s:Shared}
theorem tup_at (I:Inv X pins σ H s) {p:Addr} {vs:List V} (h:H p = some (.tup vs)):∃ its:List Value,Vals vs its /\ s.heap.IsTuple p its.toArray:=by
  obtain ⟨_,its,r,q⟩:=(show ObjOk X.prog X.w H s.heap p (.tup vs) from I.hok p _ h)
  exact ⟨its,r,q⟩
theorem lst_at (I:Inv X pins σ H s) {p:Addr} {vs:List V} (h:H p = some (.lst vs)):∃ its:List Value,Vals vs its /\ s.heap.IsList p its.toArray:=by
  obtain ⟨_,its,n,r,q⟩:=(show ObjOk X.prog X.w H s.heap p (.lst vs) from I.hok p _ h)
  exact ⟨its,r,_,q,rfl,_,rfl⟩
theorem in1_tup {A:Around} {ds:List Dt} (h:A.units + dep (.tup ds) < cLine):A.in1.units + depL ds < cLine:=by
  have e:dep (.tup ds) = depL ds + 1:=by simp [dep]
  show A.units + 1 + depL ds < cLine
  omega
theorem in1_lst {A:Around} {ds:List Dt} (h:A.units + dep (.lst ds) < cLine):A.in1.units + depL ds < cLine:=by
  have e:dep (.lst ds) = depL ds + 1:=by simp [dep]
  show A.units + 1 + depL ds < cLine
  omega
mutual
theorem eqAt_D (I:Inv X pins σ H s):∀ (d e:Dt) {x y:V} {u v:Value} {A:Around},Den H d x -> Den H e y -> RelV x u -> RelV y v -> A.units + dep d < cLine -> SeqAt.EqAt A s u v (deq d e)
  | .tup ds,e,x,y,u,v,A,h1,h2,rx,ry,hu => by
    obtain ⟨p,vs,rfl,a,b⟩:=h1
    cases rx
    obtain ⟨its,r,t⟩:=tup_at I a
    have hu':A.units < cLine:=by omega
    cases e with
    | tup es =>
      obtain ⟨q,ws,rfl,a',b'⟩:=id h2
      cases ry
      by_cases hne:p = q
      . subst hne
        have:=Den.same_eq (.tup ds) (.tup es) (x:=.ref p) ⟨p,vs,rfl,a,b⟩ h2
        rw [this]
        exact SeqAt.EqAt.same _
      . obtain ⟨its',r',t'⟩:=tup_at I a'
        have z:=SeqAt.RcAt.tuples (e:=nth ds es) t t' hu' (fun j g1 g2 => eqAt_L I ds es b b' r r' (in1_tup hu) j (by simpa using g1) (by simpa using g2))
        have l1:its.length = ds.length:=by rw [b.length,r.length]
        have l2:its'.length = es.length:=by rw [b'.length,r'.length]
        rw [List.size_toArray,List.size_toArray,l1,l2,deqL_all] at z
        exact SeqAt.EqAt.of_refs hne z
    | lst es =>
      obtain ⟨q,ws,rfl,a',b'⟩:=id h2
      cases ry
      obtain ⟨its',r',t'⟩:=lst_at I a'
      exact SeqAt.EqAt.tuple_list t t' hu'
    | non => cases (show y = .non from h2); cases ry; exact SeqAt.EqAt.tuple_none t hu'
    | bl b => cases (show y = .bl b from h2); cases ry; exact SeqAt.EqAt.tuple_bool b t hu'
    | int b => cases (show y = .int b from h2); obtain ⟨tk,rfl⟩:=ry; exact SeqAt.EqAt.tuple_int b tk t hu'
    | str b => cases (show y = .str b from h2); obtain ⟨tk,rfl⟩:=ry; exact SeqAt.EqAt.tuple_str b tk t hu'
  | .lst ds,e,x,y,u,v,A,h1,h2,rx,ry,hu => by
    obtain ⟨p,vs,rfl,a,b⟩:=h1
    cases rx
    obtain ⟨its,r,t⟩:=lst_at I a
    have hu':A.units < cLine:=by omega
    cases e with
    | lst es =>
      obtain ⟨q,ws,rfl,a',b'⟩:=id h2
      cases ry
      by_cases hne:p = q
      . subst hne
        have:=Den.same_eq (.lst ds) (.lst es) (x:=.ref p) ⟨p,vs,rfl,a,b⟩ h2
        rw [this]
        exact SeqAt.EqAt.same _
      . obtain ⟨its',r',t'⟩:=lst_at I a'
        have l1:its.length = ds.length:=by rw [b.length,r.length]
        have l2:its'.length = es.length:=by rw [b'.length,r'.length]
        by_cases hl:ds.length = es.length
        . have z:=SeqAt.RcAt.lists (e:=nth ds es) t t' (by rw [List.size_toArray,List.size_toArray,l1,l2,hl]) hu' (fun j g1 g2 => eqAt_L I ds es b b' r r' (in1_lst hu) j (by simpa using g1) (by simpa using g2))
          have e1:=deqL_all ds es
          rw [hl,Nat.min_self,beq_self_eq_true,Bool.and_true] at e1
          rw [List.size_toArray,l1,hl,e1] at z
          exact SeqAt.EqAt.of_refs hne z
        . have z:=SeqAt.RcAt.lists_lengths t t' (by rw [List.size_toArray,List.size_toArray,l1,l2]; simpa using hl) hu'
          have e1:=deqL_all ds es
          rw [show (ds.length == es.length) = false from by simpa using hl,Bool.and_false] at e1
          have e2:deq (.lst ds) (.lst es) = false:=by show deqL ds es = false; exact e1.symm
          rw [e2]
          exact SeqAt.EqAt.of_refs hne z
    | tup es =>
      obtain ⟨q,ws,rfl,a',b'⟩:=id h2
      cases ry
      obtain ⟨its',r',t'⟩:=tup_at I a'
      exact SeqAt.EqAt.list_tuple t t' hu'
    | non => cases (show y = .non from h2); cases ry; exact SeqAt.EqAt.list_none t hu'
    | bl b => cases (show y = .bl b from h2); cases ry; exact SeqAt.EqAt.list_bool b t hu'
    | int b => cases (show y = .int b from h2); obtain ⟨tk,rfl⟩:=ry; exact SeqAt.EqAt.list_int b tk t hu'
    | str b => cases (show y = .str b from h2); obtain ⟨tk,rfl⟩:=ry; exact SeqAt.EqAt.list_str b tk t hu'
  | .non,e,x,y,u,v,A,h1,h2,rx,ry,hu => by
    cases (show x = .non from h1); cases rx
    have hu':A.units < cLine:=by omega
    cases e with
    | tup es => obtain ⟨q,ws,rfl,a',b'⟩:=id h2; cases ry; obtain ⟨its',r',t'⟩:=tup_at I a'; exact SeqAt.EqAt.none_tuple t' hu'
    | lst es => obtain ⟨q,ws,rfl,a',b'⟩:=id h2; cases ry; obtain ⟨its',r',t'⟩:=lst_at I a'; exact SeqAt.EqAt.none_list t' hu'
    | non => cases (show y = .non from h2); cases ry; exact SeqAt.EqAt.same _
    | bl b => cases (show y = .bl b from h2); cases ry; exact SeqAt.EqAt.none_bool b
    | int b => cases (show y = .int b from h2); obtain ⟨tk,rfl⟩:=ry; exact SeqAt.EqAt.none_int b tk
    | str b => cases (show y = .str b from h2); obtain ⟨tk,rfl⟩:=ry; exact SeqAt.EqAt.none_str b tk
  | .bl c,e,x,y,u,v,A,h1,h2,rx,ry,hu => by
    cases (show x = .bl c from h1); cases rx
    have hu':A.units < cLine:=by omega
    cases e with
    | tup es => obtain ⟨q,ws,rfl,a',b'⟩:=id h2; cases ry; obtain ⟨its',r',t'⟩:=tup_at I a'; exact SeqAt.EqAt.bool_tuple c t' hu'
    | lst es => obtain ⟨q,ws,rfl,a',b'⟩:=id h2; cases ry; obtain ⟨its',r',t'⟩:=lst_at I a'; exact SeqAt.EqAt.bool_list c t' hu'
    | non => cases (show y = .non from h2); cases ry; exact SeqAt.EqAt.bool_none c
    | bl b => cases (show y = .bl b from h2); cases ry; exact SeqAt.EqAt.bool_bool c b
    | int b => cases (show y = .int b from h2); obtain ⟨tk,rfl⟩:=ry; exact SeqAt.EqAt.bool_int c b tk
    | str b => cases (show y = .str b from h2); obtain ⟨tk,rfl⟩:=ry; exact SeqAt.EqAt.bool_str c b tk
  | .int c,e,x,y,u,v,A,h1,h2,rx,ry,hu => by
    cases (show x = .int c from h1); obtain ⟨tc,rfl⟩:=rx
    have hu':A.units < cLine:=by omega
    cases e with
    | tup es => obtain ⟨q,ws,rfl,a',b'⟩:=id h2; cases ry; obtain ⟨its',r',t'⟩:=tup_at I a'; exact SeqAt.EqAt.int_tuple c tc t' hu'
    | lst es => obtain ⟨q,ws,rfl,a',b'⟩:=id h2; cases ry; obtain ⟨its',r',t'⟩:=lst_at I a'; exact SeqAt.EqAt.int_list c tc t' hu'
    | non => cases (show y = .non from h2); cases ry; exact SeqAt.EqAt.int_none c tc
    | bl b => cases (show y = .bl b from h2); cases ry; exact SeqAt.EqAt.int_bool c tc b
    | int b => cases (show y = .int b from h2); obtain ⟨tk,rfl⟩:=ry; exact SeqAt.EqAt.int_int c tc b tk
    | str b => cases (show y = .str b from h2); obtain ⟨tk,rfl⟩:=ry; exact SeqAt.EqAt.int_str c tc b tk
  | .str c,e,x,y,u,v,A,h1,h2,rx,ry,hu => by
    cases (show x = .str c from h1); obtain ⟨tc,rfl⟩:=rx
    have hu':A.units < cLine:=by omega
    cases e with
    | tup es => obtain ⟨q,ws,rfl,a',b'⟩:=id h2; cases ry; obtain ⟨its',r',t'⟩:=tup_at I a'; exact SeqAt.EqAt.str_tuple c tc t' hu'
    | lst es => obtain ⟨q,ws,rfl,a',b'⟩:=id h2; cases ry; obtain ⟨its',r',t'⟩:=lst_at I a'; exact SeqAt.EqAt.str_list c tc t' hu'
    | non => cases (show y = .non from h2); cases ry; exact SeqAt.EqAt.str_none c tc
    | bl b => cases (show y = .bl b from h2); cases ry; exact SeqAt.EqAt.str_bool c tc b
    | int b => cases (show y = .int b from h2); obtain ⟨tk,rfl⟩:=ry; exact SeqAt.EqAt.str_int c tc b tk
    | str b => cases (show y = .str b from h2); obtain ⟨tk,rfl⟩:=ry; exact SeqAt.EqAt.str_str c tc b tk
theorem eqAt_L (I:Inv X pins σ H s):∀ (ds es:List Dt) {xs ys:List V} {us vs:List Value} {A:Around},DenL H ds xs -> DenL H es ys -> Vals xs us -> Vals ys vs -> A.units + depL ds < cLine ->
    ∀ (j:Nat) (g1:j < us.length) (g2:j < vs.length),SeqAt.EqAt A s us[j] vs[j] (nth ds es j)
  | [],es,xs,ys,us,vs,A,h1,h2,r1,r2,hu => fun j g1 g2 => by
    have h1:xs = []:=h1
    subst h1
    cases r1
    exact absurd g1 (Nat.not_lt_zero _)
  | d :: ds,[],xs,ys,us,vs,A,h1,h2,r1,r2,hu => fun j g1 g2 => by
    have h2:ys = []:=h2
    subst h2
    cases r2
    exact absurd g2 (Nat.not_lt_zero _)
  | d :: ds,e :: es,xs,ys,us,vs,A,h1,h2,r1,r2,hu => fun j g1 g2 => by
    obtain ⟨x,xr,rfl,a,b⟩:=h1
    obtain ⟨y,yr,rfl,a',b'⟩:=h2
    cases r1 with
    | cons rx r1 =>
      cases r2 with
      | cons ry r2 =>
        have hd:depL (d :: ds) = max (dep d) (depL ds):=by simp [depL]
        cases j with
        | zero => exact eqAt_D I d e a a' rx ry (by omega)
        | succ j => exact eqAt_L I ds es b b' r1 r2 (by omega) j (by simpa using g1) (by simpa using g2)
end
noncomputable def rEqD:R2:=fun x y H Q => ∃ d e,Den H d x /\ Den H e y /\ dep d <= 60 /\ ((∃ ds es,d = .tup ds /\ e = .tup es) ∨ ∃ ds es,d = .lst ds /\ e = .lst es) /\ Q (.bl (deq d e)) H
noncomputable def rNeD:R2:=fun x y H Q => ∃ d e,Den H d x /\ Den H e y /\ dep d <= 60 /\ ((∃ ds es,d = .tup ds /\ e = .tup es) ∨ ∃ ds es,d = .lst ds /\ e = .lst es) /\ Q (.bl (!deq d e)) H
theorem op_eqD (hu:X.A.units + 64 < cLine):OpR X (compareOp .Eq) rEqD:=by
  intro pins s σ H x y v u Q I rx ry h
  obtain ⟨d,e,h1,h2,hd,k,q⟩:=h
  rcases k with ⟨ds,es,rfl,rfl⟩ | ⟨ds,es,rfl,rfl⟩
  . obtain ⟨p,vs,rfl,a,b⟩:=h1
    obtain ⟨p',ws,rfl,a',b'⟩:=h2
    cases rx
    cases ry
    obtain ⟨its,r,t⟩:=tup_at I a
    obtain ⟨its',r',t'⟩:=tup_at I a'
    have z:=SeqAt.RcAt.tuples (A:=X.A) (e:=nth ds es) t t' (by omega) (fun j g1 g2 => eqAt_L I ds es b b' r r' (in1_tup (by omega)) j (by simpa using g1) (by simpa using g2))
    have l1:its.length = ds.length:=by rw [b.length,r.length]
    have l2:its'.length = es.length:=by rw [b'.length,r'.length]
    rw [List.size_toArray,List.size_toArray,l1,l2,deqL_all] at z
    exact z _ _ _ _ ⟨.bl _,H,I,rfl,q⟩
  . obtain ⟨p,vs,rfl,a,b⟩:=h1
    obtain ⟨p',ws,rfl,a',b'⟩:=h2
    cases rx
    cases ry
    obtain ⟨its,r,t⟩:=lst_at I a
    obtain ⟨its',r',t'⟩:=lst_at I a'
    have l1:its.length = ds.length:=by rw [b.length,r.length]
    have l2:its'.length = es.length:=by rw [b'.length,r'.length]
    by_cases hl:ds.length = es.length
    . have z:=SeqAt.RcAt.lists (A:=X.A) (e:=nth ds es) t t' (by rw [List.size_toArray,List.size_toArray,l1,l2,hl]) (by omega) (fun j g1 g2 => eqAt_L I ds es b b' r r' (in1_lst (by omega)) j (by simpa using g1) (by simpa using g2))
      have e1:=deqL_all ds es
      rw [hl,Nat.min_self,beq_self_eq_true,Bool.and_true] at e1
      rw [List.size_toArray,l1,hl,e1] at z
      exact z _ _ _ _ ⟨.bl _,H,I,rfl,q⟩
    . have z:=SeqAt.RcAt.lists_lengths (A:=X.A) t t' (by rw [List.size_toArray,List.size_toArray,l1,l2]; simpa using hl) (by omega)
      have e1:=deqL_all ds es
      rw [show (ds.length == es.length) = false from by simpa using hl,Bool.and_false] at e1
      have e2:deq (.lst ds) (.lst es) = false:=by show deqL ds es = false; exact e1.symm
      rw [e2] at q
      exact z _ _ _ _ ⟨.bl _,H,I,rfl,q⟩
theorem op_neD (hu:X.A.units + 64 < cLine):OpR X (compareOp .NotEq) rNeD:=by
  intro pins s σ H x y v u Q I rx ry h
  obtain ⟨d,e,h1,h2,hd,k,q⟩:=h
  rcases k with ⟨ds,es,rfl,rfl⟩ | ⟨ds,es,rfl,rfl⟩
  . obtain ⟨p,vs,rfl,a,b⟩:=h1
    obtain ⟨p',ws,rfl,a',b'⟩:=h2
    cases rx
    cases ry
    obtain ⟨its,r,t⟩:=tup_at I a
    obtain ⟨its',r',t'⟩:=tup_at I a'
    have z:=SeqAt.RcNeAt.tuples (A:=X.A) (e:=nth ds es) t t' (by omega) (fun j g1 g2 => eqAt_L I ds es b b' r r' (in1_tup (by omega)) j (by simpa using g1) (by simpa using g2))
    have l1:its.length = ds.length:=by rw [b.length,r.length]
    have l2:its'.length = es.length:=by rw [b'.length,r'.length]
    rw [List.size_toArray,List.size_toArray,l1,l2,deqL_all] at z
    exact z _ _ _ _ ⟨.bl _,H,I,rfl,q⟩
  . obtain ⟨p,vs,rfl,a,b⟩:=h1
    obtain ⟨p',ws,rfl,a',b'⟩:=h2
    cases rx
    cases ry
    obtain ⟨its,r,t⟩:=lst_at I a
    obtain ⟨its',r',t'⟩:=lst_at I a'
    have l1:its.length = ds.length:=by rw [b.length,r.length]
    have l2:its'.length = es.length:=by rw [b'.length,r'.length]
    by_cases hl:ds.length = es.length
    . have z:=SeqAt.RcNeAt.lists (A:=X.A) (e:=nth ds es) t t' (by rw [List.size_toArray,List.size_toArray,l1,l2,hl]) (by omega) (fun j g1 g2 => eqAt_L I ds es b b' r r' (in1_lst (by omega)) j (by simpa using g1) (by simpa using g2))
      have e1:=deqL_all ds es
      rw [hl,Nat.min_self,beq_self_eq_true,Bool.and_true] at e1
      rw [List.size_toArray,l1,hl,e1] at z
      exact z _ _ _ _ ⟨.bl _,H,I,rfl,q⟩
    . have z:=SeqAt.RcNeAt.lists_lengths (A:=X.A) t t' (by rw [List.size_toArray,List.size_toArray,l1,l2]; simpa using hl) (by omega)
      have e1:=deqL_all ds es
      rw [show (ds.length == es.length) = false from by simpa using hl,Bool.and_false] at e1
      have e2:deq (.lst ds) (.lst es) = false:=by show deqL ds es = false; exact e1.symm
      rw [e2] at q
      exact z _ _ _ _ ⟨.bl _,H,I,rfl,q⟩
noncomputable def rEqA:R2:=fun x y H Q => rEq x y H Q ∨ rEqD x y H Q
noncomputable def rNeA:R2:=fun x y H Q => rNe x y H Q ∨ rNeD x y H Q
theorem op_eqA (hu:X.A.units + 64 < cLine):OpR X (compareOp .Eq) rEqA:=op_eq.or (op_eqD hu)
theorem op_neA (hu:X.A.units + 64 < cLine):OpR X (compareOp .NotEq) rNeA:=op_ne.or (op_neD hu)
end
section
variable {H:Hp} {Q:VK} {i j:Int} {b c:Bool} {x y:Str} {u v:V}
theorem e_int (k:Q (.bl (decide (i = j))) H):rEqA (.int i) (.int j) H Q:=.inl (r_eqI k)
theorem n_int (k:Q (.bl (!decide (i = j))) H):rNeA (.int i) (.int j) H Q:=.inl (r_neI k)
theorem e_bl (k:Q (.bl (b == c)) H):rEqA (.bl b) (.bl c) H Q:=.inl (r_eqB k)
theorem n_bl (k:Q (.bl (!(b == c))) H):rNeA (.bl b) (.bl c) H Q:=.inl (r_neB k)
theorem e_str (k:Q (.bl (x == y)) H):rEqA (.str x) (.str y) H Q:=.inl ⟨rfl,by rw [dec_str]; exact k⟩
theorem n_str (k:Q (.bl (!(x == y))) H):rNeA (.str x) (.str y) H Q:=.inl ⟨rfl,by rw [dec_str]; exact k⟩
theorem e_lst {ds es:List Dt} (h1:Den H (.lst ds) u) (h2:Den H (.lst es) v) (hd:depL ds <= 50) (k:Q (.bl (deqL ds es)) H):rEqA u v H Q :=
  .inr ⟨_,_,h1,h2,by simp [dep]; omega,.inr ⟨_,_,rfl,rfl⟩,k⟩
theorem n_lst {ds es:List Dt} (h1:Den H (.lst ds) u) (h2:Den H (.lst es) v) (hd:depL ds <= 50) (k:Q (.bl (!deqL ds es)) H):rNeA u v H Q :=
  .inr ⟨_,_,h1,h2,by simp [dep]; omega,.inr ⟨_,_,rfl,rfl⟩,k⟩
theorem den2 {p:Addr} {a b:Int} (h:H p = some (.tup [.int a,.int b])):Den H (.tup [.int a,.int b]) (.ref p):=⟨p,_,rfl,h,_,_,rfl,rfl,_,_,rfl,rfl,rfl⟩
theorem deq2 (a b c d:Int):deqL [.int a,.int b] [.int c,.int d] = decide (a = c /\ b = d):=by
  show ((a == c) && ((b == d) && true)) = _
  rw [Bool.and_true,Bool.decide_and,Bool.beq_eq_decide_eq,Bool.beq_eq_decide_eq]
end
end L2
namespace L2
open PySem PySem.Spec PyProof.Rows
section
variable {X:Cx} {K:PySem.W.Frag} {H H':Hp} {Q:VK} {i j:Int} {σ:St}
noncomputable def rAddS:R2:=fun x y H Q => ∃ i j,x = .str i /\ y = .str j /\ i.length + j.length <= sizeLine /\ Q (.str (i ++ j)) H
theorem op_addS:OpR X (binaryOp .Add) rAddS:=op_add_str
noncomputable def rAddA (K:PySem.W.Frag):R2:=fun x y H Q => rI0 (fun i j => .int (i + j)) x y H Q ∨ rCat x y H Q ∨ rCatT K x y H Q ∨ rAddS x y H Q
theorem op_addA:OpR X (binaryOp .Add) (rAddA X.K):=op_add.or (op_cat.or (op_catT.or op_addS))
theorem a_int (k:Q (.int (i + j)) H):rAddA K (.int i) (.int j) H Q:=.inl (r_I0 k)
theorem a_lst {p q:Addr} {xs ys:List V} (h1:H p = some (.lst xs)) (h2:H q = some (.lst ys)) (hl:xs.length + ys.length <= 1000) (k:∀ l,H l = none -> Q (.ref l) (upd H l (.lst (xs ++ ys)))):rAddA K (.ref p) (.ref q) H Q :=
  .inr (.inl ⟨p,q,xs,ys,rfl,rfl,h1,h2,le_line hl,k⟩)
noncomputable def rListOf (K:PySem.W.Frag):List V -> Hp -> VK -> Prop:=fun xs H Q => ∃ p ys,xs = [.ref p] /\ (SqL K H p ys ∨ SqT K H p ys) /\ ∀ l,H l = none -> Q (.ref l) (upd H l (.lst ys))
theorem c_list:CallR X (.type "list") (rListOf X.K):=call_list_of
theorem l_lst {p:Addr} {xs:List V} (h:H p = some (.lst xs)) (k:∀ l,H l = none -> Q (.ref l) (upd H l (.lst xs))):rListOf K [.ref p] H Q:=⟨p,xs,rfl,.inl (SqL.of h),k⟩
noncomputable def partK (R:Option Int -> Hp -> Prop):VK:=fun x H1 => ∃ i,x = .int i /\ R (some i) H1
theorem r_part {t:TE} {R:Option Int -> Hp -> Prop} (k:t σ H (partK R)):tPart t σ H R:=k
theorem r_partK {R:Option Int -> Hp -> Prop} (k:R (some i) H):partK R (.int i) H:=⟨i,rfl,k⟩
theorem r_nopart {R:Option Int -> Hp -> Prop} (k:R none H):tNoPart σ H R:=k
theorem r_sl {r:V -> Option Int -> Option Int -> Hp -> VK -> Prop} {te:TE} {tl th:TO} (k:te σ H fun x H1 => tl σ H1 fun l H2 => th σ H2 fun u H3 => r x l u H3 Q):tSl r te tl th σ H Q:=k
theorem upd_old {H:Hp} {q b:Addr} {o u:HO} (hq:H q = none) (h:H b = some u):upd H q o b = some u:=by rw [upd_ne (ne_of_none h hq)]; exact h
theorem St3.nn {p q:Addr} {n:Int} (h:St3 H p n) (hq:H q = none):q ≠ p:=let ⟨_,_,_,h,_⟩:=h; (ne_of_none h hq).symm
noncomputable def NT (K:PySem.W.Frag) (H:Hp) (x:V):Prop:=∃ t,TyOf K H x t /\ PySem.W.kitOne K t (.type "tuple") = some false
theorem NT.int (i:Int):NT K H (.int i):=⟨_,.int i,kit_int_tuple⟩
theorem NT.non:NT K H .non:=⟨_,.non,kit_NoneType_tuple⟩
theorem NT.str (x:Str):NT K H (.str x):=⟨_,.str x,kit_str_tuple⟩
theorem NT.bl (x:Bool):NT K H (.bl x):=⟨_,.bl x,kit_bool_tuple⟩
theorem NT.lst {p:Addr} {xs:List V} (h:H p = some (.lst xs)):NT K H (.ref p):=⟨_,.lst h,kit_list_tuple⟩
end
end L2
namespace L2
open PySem PySem.Spec PyProof.Rows
noncomputable def cxComp (X:Cx) (scope:Scope) (cl:List (Str×Addr)) (N:List Str) (C:Addr) (s0:Shared) (H0:Hp) (ex:List Addr):Cx :=
  { X with N:=N,s₀:=s0,H₀:=H0,env:=compEnvC scope cl C X.env,outer:=X.stack,stack:=X.stack,ex:=ex,fn:=fun _ => false,pn:=[],xe:=fun _ _ => False }
noncomputable def capsOf (env:Env) (names:List Str):List (Str×Addr):=names.filterMap fun n => (env.cells.lookup n).map fun c => (n,c)
theorem capsOf_sub {env:Env}:∀ {names:List Str} {x:Str} {c:Addr},(capsOf env names).lookup x = some c -> env.cells.lookup x = some c
  | [],x,c,h => by simp [capsOf] at h
  | n :: r,x,c,h => by
    unfold capsOf at h
    rw [List.filterMap_cons] at h
    cases e:env.cells.lookup n with
    | none =>
      rw [e] at h
      exact capsOf_sub (names:=r) h
    | some d =>
      rw [e] at h
      have h':List.lookup x ((n,d) :: capsOf env r) = some c:=h
      rw [List.lookup_cons] at h'
      by_cases hx:x = n
      . subst hx
        rw [beq_self_eq_true] at h'
        cases h'
        exact e
      . rw [beq_eq_false_iff_ne.mpr hx] at h'
        exact capsOf_sub (names:=r) h'
theorem capsOf_has {env:Env}:∀ {names:List Str} {x:Str} {c:Addr},x ∈ names -> env.cells.lookup x = some c -> (capsOf env names).lookup x = some c
  | [],x,c,h,_ => by cases h
  | n :: r,x,c,h,e => by
    unfold capsOf
    rw [List.filterMap_cons]
    by_cases hx:x = n
    . subst hx
      rw [e]
      show List.lookup x ((x,c) :: _) = some c
      rw [List.lookup_cons,beq_self_eq_true]
    . have hr:x ∈ r:=(List.mem_cons.mp h).resolve_left hx
      have ih:=capsOf_has (env:=env) hr e
      cases e2:env.cells.lookup n with
      | none => exact ih
      | some d =>
        show List.lookup x ((n,d) :: capsOf env r) = some c
        rw [List.lookup_cons,beq_eq_false_iff_ne.mpr hx]
        exact ih
noncomputable def capV (σ:St) (is:List Nat):St:=is.map fun i => (σ[i]?).join
noncomputable def compK (te:TE) (tc:Option TT) (g:TG) (ts:St) (caps:St) (Q:VK):It -> Hp -> Prop:=fun J H1 => ∀ acc,H1 acc = none ->
  ∃ W:Nat -> Nat -> List V -> Hp -> Prop,(∃ m,W 0 m [] (upd H1 acc (.lst []))) /\ ∀ i m ys H,W i m ys H ->
    H acc = some (.lst ys) /\ ((J.stop i H /\ Q (.ref acc) H) ∨ (ys.length < sizeLine /\ J.go i H /\ ∀ (us:St) x H',us.length = ts.length -> J.yld i H x H' -> g x (us ++ caps) H' fun σ2 H2 =>
      (∃ us2,us2.length = ts.length /\ σ2 = us2 ++ caps) /\
      let made:=te σ2
      let next:=fun y H3 => H3 acc = some (.lst ys) /\ ∃ m',m' < m /\ W (i + 1) m' (ys ++ [y]) (upd H3 acc (.lst (ys ++ [y])))
      match tc with
      | none => made H2 next
      | some c => c σ2 H2 fun b H3 => if b = true then made H3 next else ∃ m',m' < m /\ W (i + 1) m' ys H3))
noncomputable def tComp (wi:TI) (te:TE) (tc:Option TT) (g:TG) (k:Nat) (is:List Nat):TE:=fun σ H Q => wi σ H (compK te tc g (List.replicate k none) (capV σ is) Q)
section
variable {X:Cx} {scope:Scope} {N tn names:List Str} {is:List Nat} {elt iter tg:Expr} {ifs:List Expr} {pos:Pos} {wi:TI} {te:TE} {tc:Option TT} {g:TG}
structure CompOk (X:Cx) (scope:Scope) (tn names:List Str) (is:List Nat):Prop where
  cls:(∀ x ∈ names,∃ c,X.env.cells.lookup x = some c) -> closureFor scope X.env = pure (capsOf X.env names)
  nocell:∀ y ∈ scope.names,y.2 ≠ .cell
  kind:scope.kind = .function
  nms:∀ y ∈ scope.names,y.2 = .local -> scope.names.lookup y.1 = some .local
  slots:∀ (j i:Nat) (x:Str),is[j]? = some i -> names[j]? = some x -> X.N[i]? = some x
  len:is.length = names.length
  outk:∀ x ∈ names,X.env.kindOf x = some .cell ∨ X.env.kindOf x = some .free
  ink:∀ x ∈ names,(relabel scope X.env).names.lookup x = some .cell ∨ (relabel scope X.env).names.lookup x = some .free
  free:∀ x,((relabel scope X.env).names.lookup x = some .cell ∨ (relabel scope X.env).names.lookup x = some .free) -> x ∈ names
theorem closure_go {env:Env}:∀ (l:List (Str×NameKind)) (acc:List (Str×Addr)),(∀ x ∈ (l.filter fun y => y.2 == .free).map (·.1),∃ c,env.cells.lookup x = some c) ->
    (forIn l acc fun (x:Str×NameKind) (cs:List (Str×Addr)) => (if (x.2 == .free) = true then (do let a ← cellOf env x.1; pure (ForInStep.yield ((x.1,a) :: cs))) else pure (ForInStep.yield cs)):Sem (List (Str×Addr)))
      = pure ((((l.filter fun y => y.2 == .free).map (·.1)).reverse.filterMap fun n => (env.cells.lookup n).map fun c => (n,c)) ++ acc)
  | [],acc,_ => rfl
  | (n,k) :: r,acc,h => by
    rw [List.forIn_cons]
    by_cases hk:(k == NameKind.free) = true
    . have hf:((n,k) :: r).filter (fun y => y.2 == .free) = (n,k) :: r.filter fun y => y.2 == .free:=by rw [List.filter_cons]; exact if_pos hk
      rw [hf] at h ⊢
      obtain ⟨c,e⟩:=h n (by simp)
      have e1:cellOf env n = pure c:=by unfold cellOf; rw [e]
      show (((if (k == NameKind.free) = true then (do let a ← cellOf env n; pure (ForInStep.yield ((n,a) :: acc))) else pure (ForInStep.yield acc)):Sem _) >>= _) = _
      rw [if_pos hk,e1]
      have ih:=closure_go r ((n,c) :: acc) fun x hx => h x (by simp at hx ⊢; exact .inr hx)
      have e2:(((n,k) :: r.filter fun y => y.2 == .free).map (·.1)).reverse.filterMap (fun n => (env.cells.lookup n).map fun c => (n,c)) = ((r.filter fun y => y.2 == .free).map (·.1)).reverse.filterMap (fun n => (env.cells.lookup n).map fun c => (n,c)) ++ [(n,c)]:=by
        rw [List.map_cons,List.reverse_cons,List.filterMap_append,List.filterMap_cons,e]
        rfl
      rw [e2,List.append_assoc]
      exact ih
    . have hf:((n,k) :: r).filter (fun y => y.2 == .free) = r.filter fun y => y.2 == .free:=by rw [List.filter_cons]; exact if_neg hk
      rw [hf] at h ⊢
      show (((if (k == NameKind.free) = true then (do let a ← cellOf env n; pure (ForInStep.yield ((n,a) :: acc))) else pure (ForInStep.yield acc)):Sem _) >>= _) = _
      rw [if_neg hk]
      exact closure_go r acc h
theorem closureFor_caps {scope:Scope} {env:Env} {names:List Str} (hn:((scope.names.filter fun y => y.2 == .free).map (·.1)).reverse = names) (h:∀ x ∈ names,∃ c,env.cells.lookup x = some c) :
    closureFor scope env = pure (capsOf env names):=by
  unfold closureFor capsOf
  have q:=closure_go (env:=env) scope.names [] fun x hx => h x (by rw [← hn]; exact List.mem_reverse.mpr hx)
  rw [hn,List.append_nil] at q
  show (_ >>= fun r => pure r) = _
  have q2:(forIn scope.names ([]:List (Str×Addr)) fun (x:Str×NameKind) (cs:List (Str×Addr)) => match x with
      | (name,kind) => (if (kind == .free) = true then (do let a ← cellOf env name; pure (ForInStep.yield ((name,a) :: cs))) else pure (ForInStep.yield cs)):Sem (List (Str×Addr))) = pure (names.filterMap fun n => (env.cells.lookup n).map fun c => (n,c)):=q
  first
    | exact (congrArg (fun z => z >>= fun r => pure r) q2)
    | simpa using q2
noncomputable def relab (scope sc:Scope):Scope:={ scope with names:=scope.names.map fun (n,k) => if (k == .free && sc.kind == .function && sc.names.lookup n == some .cell) then (n,.cell) else (n,k) }
theorem comp_ck {X:Cx} {scope sc:Scope} {N tn names:List Str} {is:List Nat} (hsc:X.env.scope = sc) (hN:X.N = N) (h1:((scope.names.filter fun y => y.2 == .free).map (·.1)).reverse = names) (h2:∀ y ∈ scope.names,y.2 ≠ .cell) (h3:scope.kind = .function)
    (h4:∀ y ∈ scope.names,y.2 = .local -> scope.names.lookup y.1 = some .local) (h5:(is.map fun i => N[i]?) = names.map some) (h6:∀ x ∈ names,sc.names.lookup x = some .cell ∨ sc.names.lookup x = some .free)
    (h7:∀ x ∈ names,(relab scope sc).names.lookup x = some .cell ∨ (relab scope sc).names.lookup x = some .free) (h8:∀ y ∈ (relab scope sc).names,(y.2 = .cell ∨ y.2 = .free) -> y.1 ∈ names):CompOk X scope tn names is:=by
  subst hsc hN
  have hr:relabel scope X.env = relab scope X.env.scope:=rfl
  refine ⟨closureFor_caps h1,h2,h3,h4,fun j i x e1 e2 => ?_,?_,h6,?_,fun x hx => ?_⟩
  . have q:=congrArg (fun l => l[j]?) h5
    simp only [List.getElem?_map,e1,e2,Option.map_some] at q
    exact Option.some.inj q
  . have q:=congrArg List.length h5
    simpa using q
  . rw [hr]; exact h7
  . rw [hr] at hx
    have mem:∀ {l:List (Str×NameKind)} {k:NameKind},l.lookup x = some k -> (x,k) ∈ l:=fun {l} {k} => by
      induction l with
      | nil => intro e; cases e
      | cons y r ih =>
        intro e
        obtain ⟨n,k'⟩:=y
        rw [List.lookup_cons] at e
        by_cases hx:x = n
        . subst hx
          rw [beq_self_eq_true] at e
          cases e
          exact List.mem_cons_self
        . rw [beq_eq_false_iff_ne.mpr hx] at e
          exact List.mem_cons_of_mem _ (ih e)
    rcases hx with hx | hx
    . exact h8 _ (mem hx) (.inl rfl)
    . exact h8 _ (mem hx) (.inr rfl)
theorem comp_ok {X:Cx} {scope:Scope} {tn names:List Str} {is:List Nat} (C:CompOk X scope tn names is) {pins:List (Addr×Obj)} {σ:St} {H:Hp} {s:Shared} (I:Inv X pins σ H s) {acc:Addr} {fp:List Addr}
    {s3:Shared} {h1:Heap} {t4:Nat} (I3:Inv X pins σ (upd H acc (.lst [])) s3) (hf:∀ b ∈ fp,FpOk X pins H b) (hfl:∀ b ∈ fp,b < s3.heap.objs.size) (hacc:∀ b ∈ fp,b ≠ acc)
    (ns:h1.Ns s3.heap.objs.size fun _ => none) (kp:∀ b o,s3.heap.get? b = some o -> h1.get? b = some o) :
    Inv (cxComp X scope (capsOf X.env names) (tn ++ names) s3.heap.objs.size s3 (upd H acc (.lst [])) fp) [] (List.replicate tn.length none ++ capV σ is) (upd H acc (.lst [])) { s3 with heap:=h1,toks:=t4 }:=by
  have ok:=I3.ok
  have hC:∀ x c,(capsOf X.env names).lookup x = some c -> X.env.cells.lookup x = some c:=fun x c h => capsOf_sub h
  have cellLt:∀ x c,X.env.cells.lookup x = some c -> c < s3.heap.objs.size:=fun x c e => let ⟨v,z⟩:=I3.cell x c e; z.lt
  refine ⟨⟨ok.mod,?_,ok.glob,ok.blt,Nat.le_refl _,fun x y c a b => ok.inj x y c (hC _ _ a) (hC _ _ b),fun x hx => ?_,fun _ _ z => absurd z (by simp [cxComp]),ok.hd,ok.frames,.inl rfl,fun b hb => ?_,fun b o e => I3.bs b o e,Nat.le_trans ok.bsz I3.sz,fun b o e hb => ?_,fun b hb z => ?_,I3.stack,fun b hb => I3.stkFree b hb⟩,
    rfl,I3.bare,Un.kept kp,⟨_,ns,fun i x v e1 e2 e3 => ?_⟩,fun x c e => ?_,?_,fun x c e => I3.freeC x c (hC _ _ e),fun p hp => absurd hp (by simp [cxComp]),I3.hok.kept kp,?_⟩
  . show (relabel scope X.env).kind = .function
    exact C.kind
  . have hm:=C.free x hx
    obtain ⟨c,e⟩:=ok.has x (C.outk x hm)
    exact ⟨c,capsOf_has hm e⟩
  . refine ⟨Nat.ne_of_lt (hfl b hb),fun x c e => (hf b hb).2.2.2.2.1 x c (hC _ _ e)⟩
  . rcases (hf b hb).2.2.2.1 with z | z
    . exact ok.noex b o e z
    . have:=Nat.lt_of_lt_of_le (Heap.lt_size e) ok.bsz
      omega
  . have:=I3.stkSub b z
    rcases List.mem_cons.mp this with q | q
    . exact (hf b hb).2.1 q
    . exact (hf b hb).2.2.1 q
  . by_cases hi:i < tn.length
    . rw [List.getElem?_append_left (by rw [List.length_replicate]; exact hi),List.getElem?_replicate] at e2
      rw [if_pos hi] at e2
      cases e2
    . have e1:(tn ++ names)[i]? = some x:=e1
      rw [List.getElem?_append_right (by omega)] at e1
      rw [List.getElem?_append_right (by rw [List.length_replicate]; omega),List.length_replicate] at e2
      generalize hj:i - tn.length = j at e1 e2
      unfold capV at e2
      rw [List.getElem?_map] at e2
      cases e4:is[j]? with
      | none => rw [e4] at e2; cases e2
      | some i0 =>
        rw [e4] at e2
        have e5:(σ[i0]?).join = some v:=Option.some.inj e2
        have e6:σ[i0]? = some (some v):=by
          cases q:σ[i0]? with
          | none => rw [q] at e5; cases e5
          | some o => rw [q] at e5; exact congrArg some e5
        have hx:x ∈ names:=List.mem_of_getElem? e1
        obtain ⟨m,hm,look⟩:=I3.loc
        have hv:Vis X.env.scope x:=by
          rcases C.outk x hx with q | q
          . exact .inr (.inl q)
          . exact .inr (.inr q)
        obtain ⟨u,ru,lk⟩:=look i0 x v (C.slots j i0 x e4 e1) e6 hv
        refine ⟨u,ru,.inr ⟨C.ink x hx,?_⟩⟩
        rcases lk with ⟨q,_⟩ | ⟨_,c,ec,z⟩
        . rcases C.outk x hx with q' | q' <;> (rw [q] at q'; cases q')
        . exact ⟨c,capsOf_has hx ec,let ⟨o,a,b⟩:=z; ⟨o,kp _ _ a,b⟩⟩
  . obtain ⟨v,o,a,b⟩:=I3.cell x c (hC _ _ e)
    exact ⟨v,o,kp _ _ a,b⟩
  . exact I3.hok.fresh (Nat.le_refl _)
  . show (List.replicate tn.length none ++ capV σ is).length = (tn ++ names).length
    rw [List.length_append,List.length_append,List.length_replicate]
    unfold capV
    rw [List.length_map,C.len]
theorem compLoop_any {prog:Program} {w:World} {A:Around} {R:Result -> Shared -> Prop} {s:Shared} {elt target iter:Expr} {ifs:List Expr} {scope:Scope} {pos:Pos} {it acc:Value} {env:Env} (I:Nat -> Shared -> Prop)
    (turn:∀ n s,I n s -> wpAny (model prog w) A (pyNext it) (fun r s₁ => match r with
      | none => R (.ok .next) s₁
      | some v => wpAny (model prog w) A (letOwnedTupleGo target it v) (fun _ s₁' => wpAny (model prog w) A (assign target env v) (fun _ s₂ =>
          wpAny (model prog w) A (forIn ifs true fun c r => if r = true then do let ok ← isTrue c env (eval c env); pure (ForInStep.yield ok) else pure (ForInStep.yield r)) (fun ok s₃ =>
            if ok = true then wpAny (model prog w) A (eval elt env) (fun x s₄ =>
              wpAny (model prog w) A (call (.builtin "list.append") [acc,x]) (fun _ s₅ => ∃ m,m < n /\ I m s₅) (fun _ _ => False) s₄) (fun _ _ => False) s₃
            else ∃ m,m < n /\ I m s₃) (fun _ _ => False) s₂) (fun _ _ => False) s₁') (fun _ _ => False) s₁) (fun _ _ => False) s)
    (n:Nat) (h:I n s) :
    codeAny (model prog w) A (.compLoop (.ListComp elt [⟨target,iter,ifs,0⟩] scope pos) 0 it acc env) R s:=by
  refine codeAny_loop rfl I (fun n s hI => ?_) n h
  show wpAny _ A ((compTurn (.ListComp elt [⟨target,iter,ifs,0⟩] scope pos) 0 it acc env).onRaise (fun x => do noteFrame x env; theTreesLotGoes x)) _ _ s
  refine wpAny_noted ?_
  rw [compTurn_list]
  refine wpAny_bind (wpAny_standAt (wpAny_bind (wpAny_mono (turn n s hI) (fun r s₁ h₁ => ?_) fun _ _ h' => h'.elim)))
  cases r with
  | none => exact wpAny_pure h₁
  | some v =>
    refine wpAny_bind (wpAny_mono h₁ (fun _ s₁' h₁' => ?_) fun _ _ h' => h'.elim)
    refine wpAny_bind (wpAny_mono h₁' (fun _ s₂ h₂ => wpAny_bind (wpAny_mono h₂ (fun ok s₃ h₃ => ?_) fun _ _ h' => h'.elim)) fun _ _ h' => h'.elim)
    cases ok with
    | false => exact wpAny_pure ⟨rfl,h₃⟩
    | true =>
      exact wpAny_bind (wpAny_bind (wpAny_mono h₃ (fun x s₄ h₄ => wpAny_bind (wpAny_mono h₄ (fun _ s₅ h₅ => wpAny_pure (wpAny_pure ⟨rfl,h₅⟩)) fun _ _ h' => h'.elim)) fun _ _ h' => h'.elim))
noncomputable def PTs (X':Cx) (ifs:List Expr) (tc:Option TT):Prop:=match ifs,tc with
  | [],none => True
  | [c],some t => PT X' c t
  | _,_ => False
theorem pts_none {X':Cx}:PTs X' [] none:=trivial
theorem pts_one {X':Cx} {c:Expr} {t:TT} (h:PT X' c t):PTs X' [c] (some t):=h
structure TurnG (ok:Cx -> Prop) (P:Program) (w:World) (K:PySem.W.Frag) (tg:Expr) (J:It) (fp:List Addr) (it:Addr) (tn:Nat -> Heap -> Prop):Prop where
  mem:it ∈ fp
  obj:∀ i h,tn i h -> ∀ b ∈ fp,∃ o,h.get? b = some o /\ ∀ v,o.data ≠ .cell v
  keep:∀ i h h',tn i h -> (∀ b ∈ fp,∀ o,h.get? b = some o -> h'.get? b = some o) -> tn i h'
  item:∀ (X:Cx),X.prog = P -> X.w = w -> X.K = K -> ok X -> ∀ (i:Nat) (pins:List (Addr×Obj)) (s:Shared) (σ:St) (H:Hp) (E:Value -> Shared -> Prop),Inv X pins σ H s -> (∀ b ∈ fp,FpOk X pins H b) -> tn i s.heap -> J.go i H ->
    wpAny (model P w) X.A (pyNext (.ref it)) (fun r s1 => ∃ u,r = some u /\ wpAny (model P w) X.A (letOwnedTupleGo tg (.ref it) u) (fun _ s2 => ∃ x H',Inv X pins σ H' s2 /\ RelV x u /\ J.yld i H x H' /\ tn (i + 1) s2.heap /\ ∀ b ∈ fp,H' b = none) E s1) E s
  done:∀ (X:Cx),X.prog = P -> X.w = w -> X.K = K -> ok X -> ∀ (i:Nat) (pins:List (Addr×Obj)) (s:Shared) (σ:St) (H:Hp) (E:Value -> Shared -> Prop),Inv X pins σ H s -> (∀ b ∈ fp,FpOk X pins H b) -> tn i s.heap -> J.stop i H ->
    wpAny (model P w) X.A (pyNext (.ref it)) (fun r s1 => r = none /\ Inv X pins σ H s1) E s
  self:∀ (A:Around) (i:Nat) (s:Shared) (Q:Value -> Shared -> Prop) (E:Value -> Shared -> Prop),tn i s.heap -> Q (.ref it) s -> wpAny (model P w) A (pyIter (.ref it)) Q E s
noncomputable def PIEG (ok:Cx -> Prop) (X:Cx) (pins:List (Addr×Obj)) (σ:St) (tg:Expr) (R:It -> Hp -> Prop) (itv:Value) (s2:Shared):Prop :=
  ∃ (it:Addr) (fp:List Addr) (tn:Nat -> Heap -> Prop) (J:It) (H':Hp),itv = .ref it /\ Inv X pins σ H' s2 /\ TurnG ok X.prog X.w X.K tg J fp it tn /\ tn 0 s2.heap /\ (∀ b ∈ fp,FpOk X pins H' b) /\ R J H'
theorem pie_g {X:Cx} {pins:List (Addr×Obj)} {σ:St} {tg:Expr} {R:It -> Hp -> Prop} {itv:Value} {s2:Shared} (h:PIE X pins σ tg R itv s2):PIEG (fun X => X.calm = true) X pins σ tg R itv s2 :=
  let ⟨it,fp,tn,J,H',a,b,T,c,d,e⟩:=h; ⟨it,fp,tn,J,H',a,b,⟨T.mem,T.obj,T.keep,T.item,T.done,T.self⟩,c,d,e⟩
theorem comp_run {X:Cx} {ok:Cx -> Prop} {scope:Scope} {tn names:List Str} {is:List Nat} (ck:CompOk X scope tn names is) (hc:∀ C s0 H0 ex,ok (cxComp X scope (capsOf X.env names) (tn ++ names) C s0 H0 ex)) {elt tg iter:Expr} {ifs:List Expr} {pos:Pos} {te:TE} {tc:Option TT} {g:TG}
    (hg:∀ C s0 H0 ex,PG (cxComp X scope (capsOf X.env names) (tn ++ names) C s0 H0 ex) tg g) (he:∀ C s0 H0 ex,PE (cxComp X scope (capsOf X.env names) (tn ++ names) C s0 H0 ex) elt te)
    (ht:∀ C s0 H0 ex,PTs (cxComp X scope (capsOf X.env names) (tn ++ names) C s0 H0 ex) ifs tc)
    {pins:List (Addr×Obj)} {σ:St} {Q:VK} {s2:Shared} {itv:Value} {E:Value -> Shared -> Prop} (h2:PIEG ok X pins σ tg (compK te tc g (List.replicate tn.length none) (capV σ is) Q) itv s2) {RR:Value -> Addr -> Result -> Shared -> Prop}
    (fin:∀ (acc C:Addr) (H':Hp) (s':Shared) (m:Str -> Option Value),Inv X pins σ H' s' -> s'.heap.Ns C m -> H' C = none -> C ≠ X.env.locals -> (∀ x c,X.env.cells.lookup x = some c -> c ≠ C) -> (∀ p ∈ X.pn ++ pins,p.1 ≠ C) -> X.s₀.heap.objs.size <= C -> Q (.ref acc) H' ->
      RR (.ref acc) C (.ok .next) s') :
    wpAny (model X.prog X.w) X.A (newList []) (fun acc s₃ => wpAny (model X.prog X.w) X.A (newFunctionEnv scope X.env.globals (capsOf X.env names) [] X.env.qual none .none (some X.env)) (fun cenv s₄ =>
      codeAny (model X.prog X.w) X.A (.compStart (.ListComp elt [⟨tg,iter,ifs,0⟩] scope pos) 0 itv acc { cenv with scope:=relabel scope X.env }) (RR acc cenv.locals) s₄) E s₃) E s2:=by
  obtain ⟨it,fp,tnx,J,H2,rfl,I2,T,st2,f2,hK⟩:=h2
  have facc:H2 s2.heap.objs.size = none:=I2.hok.fresh (Nat.le_refl _)
  refine wpAny_newObj_type ?_ (by show 0 <= sizeLine; decide)
  have fpl:∀ b ∈ fp,b < s2.heap.objs.size:=fun b hb => let ⟨o,e,_⟩:=T.obj 0 _ st2 b hb; Heap.lt_size e
  generalize hs3:({ s2 with heap:=s2.heap.push { cls:=.type "list",data:=.seq ([]:List Value).toArray } }:Shared) = s3
  have hsz3:s3.heap.objs.size = s2.heap.objs.size + 1:=by rw [← hs3]; exact Heap.size_push ..
  have keep23:∀ b o,s2.heap.get? b = some o -> s3.heap.get? b = some o:=fun b o e => by rw [← hs3]; exact Heap.get?_push_of_some _ e
  have I3:Inv X pins σ (upd H2 s2.heap.objs.size (.lst [])) s3:=by
    rw [← hs3]
    exact I2.laid (t':=s2.toks) (fun b u e => Heap.get?_push_of_some _ e) (Nat.le_refl _) ⟨Nat.zero_le _,[],0,.nil,Heap.get?_push_size _ rfl⟩
  refine wpAny_newFunctionEnv ck.nocell (by intro y hy; simp at hy) (fun h1 ns sb => ?_) ck.kind
  have kp:∀ b o,s3.heap.get? b = some o -> h1.get? b = some o:=fun b o e => sb.extBut b o (Nat.ne_of_lt (Heap.lt_size e)) (Heap.get?_push_of_some _ e)
  have lt3:∀ b:Addr,b < s2.heap.objs.size -> b < s3.heap.objs.size:=fun b hb => Nat.lt_of_lt_of_le hb (by rw [hsz3]; exact Nat.le_succ _)
  have ns':h1.Ns s3.heap.objs.size fun _ => none:=ns
  have I4:=comp_ok (t4:=s3.toks + ([]:List (Str×Value)).length) ck I2 I3 f2 (fun b hb => lt3 b (fpl b hb)) (fun b hb => Nat.ne_of_lt (fpl b hb)) ns' kp
  generalize hX':cxComp X scope (capsOf X.env names) (tn ++ names) s3.heap.objs.size s3 (upd H2 s2.heap.objs.size (.lst [])) fp = X' at I4
  have hA:X'.A = X.A:=by rw [← hX']; rfl
  have hP:X'.prog = X.prog:=by rw [← hX']; rfl
  have hW:X'.w = X.w:=by rw [← hX']; rfl
  have hKK:X'.K = X.K:=by rw [← hX']; rfl
  have hcm:ok X':=by rw [← hX']; exact hc _ _ _ _
  have hfs:X'.fs = frs X.stack:=by rw [← hX']; rfl
  have hex:X'.ex = fp:=by rw [← hX']; rfl
  have hloc:X'.env.locals = s3.heap.objs.size:=by rw [← hX']; rfl
  have hs0:X'.s₀ = s3:=by rw [← hX']; rfl
  have hH0:X'.H₀ = upd H2 s2.heap.objs.size (.lst []):=by rw [← hX']; rfl
  have hxe:X'.xe = fun _ _ => False:=by rw [← hX']; rfl
  have henv:X'.env = compEnvC scope (capsOf X.env names) s3.heap.objs.size X.env:=by rw [← hX']; rfl
  have hg':PG X' tg g:=by rw [← hX']; exact hg _ _ _ _
  have he':PE X' elt te:=by rw [← hX']; exact he _ _ _ _
  have ht':PTs X' ifs tc:=by rw [← hX']; exact ht _ _ _ _
  have cells':∀ x c,X'.env.cells.lookup x = some c -> X.env.cells.lookup x = some c:=fun x c e => by rw [henv] at e; exact capsOf_sub e
  obtain ⟨W,⟨m0,w0⟩,turn⟩:=hK _ facc
  have stat:∀ {H':Hp},(∀ b ∈ fp,H' b = none) -> ∀ b ∈ fp,FpOk X' [] H' b:=fun {H'} hn b hb => by
    refine ⟨hn b hb,?_,?_,.inl (by rw [hex]; exact hb),fun x c e => (f2 b hb).2.2.2.2.1 x c (cells' x c e),fun p hp => ?_⟩
    . rw [hloc]; exact Nat.ne_of_lt (lt3 b (fpl b hb))
    . rw [hfs]
      intro z
      rcases List.mem_cons.mp (I2.stkSub b z) with q | q
      . exact (f2 b hb).2.1 q
      . exact (f2 b hb).2.2.1 q
    . rw [← hX'] at hp
      exact absurd hp (by simp [cxComp])
  have loop:∀ s4:Shared,Inv X' [] (List.replicate tn.length none ++ capV σ is) (upd H2 s2.heap.objs.size (.lst [])) s4 -> tnx 0 s4.heap ->
      codeAny (model X.prog X.w) X.A (.compLoop (.ListComp elt [⟨tg,iter,ifs,0⟩] scope pos) 0 (.ref it) (.ref s2.heap.objs.size) X'.env) (RR (.ref s2.heap.objs.size) s3.heap.objs.size) s4:=by
    intro s4 J4 st4
    refine compLoop_any (fun n s' => ∃ i ys ts H',Inv X' [] (ts ++ capV σ is) H' s' /\ ts.length = tn.length /\ tnx i s'.heap /\ (∀ b ∈ fp,H' b = none) /\ W i n ys H') ?_ m0
      ⟨0,[],_,_,J4,List.length_replicate ..,st4,fun b hb => by rw [upd_ne (Nat.ne_of_lt (fpl b hb))]; exact (f2 b hb).1,w0⟩
    rintro n s5 ⟨i,ys,ts,H5,I5,hts,st5,fr5,w5⟩
    obtain ⟨hacc5,hcase⟩:=turn i n ys H5 w5
    have hrun:∀ {α:Type} {m:Sem α} {Q':α -> Shared -> Prop} {s':Shared},wpAny (model X'.prog X'.w) X'.A m Q' (fun _ _ => False) s' -> wpAny (model X.prog X.w) X.A m Q' (fun _ _ => False) s':=fun {α m Q' s'} z => by
      rw [hP,hW,hA] at z; exact z
    rcases hcase with ⟨stop,qn⟩ | ⟨hlen,go,step⟩
    . have z:=T.done X' hP hW hKK hcm i [] s5 _ H5 (fun _ _ => False) I5 (stat fr5) st5 stop
      rw [hA] at z
      refine thn z fun r s6 ⟨hr,I6⟩ => ?_
      subst hr
      -- the frame around,behind the block
      have u23:Un (frs X.stack) fp H2 (upd H2 s2.heap.objs.size (.lst [])) s2.heap s3.heap:=Un.laid keep23 (Nat.le_refl _) facc
      have u36:Un (frs X.stack) fp (upd H2 s2.heap.objs.size (.lst [])) H5 s3.heap s6.heap:=by
        have b:=I6.base
        rw [hfs,hex,hs0,hH0] at b
        exact b
      have hos:s6.os = s2.os:=by
        have b:=I6.os
        rw [hs0,← hs3] at b
        exact b
      have IO:Inv X pins σ H5 s6:=I2.call' hos (u23.trans u36) (by have b:=I6.hok; rw [hP,hW] at b; exact b) I6.bare fun b hb => by
        obtain ⟨_,f1,f2',f3,f4,f5⟩:=f2 b hb
        exact ⟨f3,f1,fun x c e => f4 x c e,fun p hp => f5 p hp⟩
      obtain ⟨m,hm,_⟩:=I6.loc
      rw [hloc] at hm
      have fC:H5 s3.heap.objs.size = none:=by have b:=I6.free; rw [hloc] at b; exact b
      refine fin _ _ H5 s6 m IO hm fC ?_ (fun x c e => ?_) (fun p hp => ?_) ?_ qn
      . exact Nat.ne_of_gt (Nat.lt_of_lt_of_le I2.lt (by omega))
      . obtain ⟨v,z⟩:=I2.cell x c e
        exact Nat.ne_of_lt (lt3 c z.lt)
      . exact Nat.ne_of_lt (lt3 p.1 (Heap.lt_size (I2.pin p hp).1))
      . exact Nat.le_trans I2.sz (by omega)
    . have z:=T.item X' hP hW hKK hcm i [] s5 _ H5 (fun _ _ => False) I5 (stat fr5) st5 go
      rw [hA] at z
      refine thn z fun r s6 ⟨u,hr,h6⟩ => ?_
      subst hr
      refine thn h6 fun _ s7 ⟨x,H7,I7,r7,y7,st7,fr7⟩ => ?_
      have I7':=I7.pinned (stat fr7) (T.obj _ _ st7)
      have zg:=hg' _ s7 _ H7 x u _ I7' r7 (step ts x H7 (by rw [hts,List.length_replicate]) y7)
      rw [hxe] at zg
      refine thn (hrun zg) fun _ s8 ⟨σ8,H8,I8,⟨us2,hus,e8⟩,q8⟩ => ?_
      subst e8
      rw [List.length_replicate] at hus
      have back:∀ {s9:Shared} {H9:Hp},Inv X' ([] ++ pinsAt fp s7.heap) (us2 ++ capV σ is) H9 s9 -> tnx (i + 1) s9.heap /\ ∀ b ∈ fp,H9 b = none:=fun {s9 H9} I9 => by
        refine ⟨T.keep _ _ _ st7 fun b hb o e => (I9.pin (b,o) (List.mem_append_right _ (List.mem_append_right _ (mem_pinsAt hb e)))).1,fun b hb => ?_⟩
        obtain ⟨o,e,d⟩:=T.obj _ _ st7 b hb
        exact (I9.pin (b,o) (List.mem_append_right _ (List.mem_append_right _ (mem_pinsAt hb e)))).2.1
      have made:∀ {s9:Shared} {H9:Hp},Inv X' ([] ++ pinsAt fp s7.heap) (us2 ++ capV σ is) H9 s9 -> te (us2 ++ capV σ is) H9 (fun y H3 => H3 s2.heap.objs.size = some (.lst ys) /\ ∃ m',m' < n /\ W (i + 1) m' (ys ++ [y]) (upd H3 s2.heap.objs.size (.lst (ys ++ [y])))) ->
          wpAny (model X.prog X.w) X.A (eval elt X'.env) (fun x s₄ => wpAny (model X.prog X.w) X.A (call (.builtin "list.append") [.ref s2.heap.objs.size,x]) (fun _ s₅ => ∃ m,m < n /\ ∃ i ys ts H',Inv X' [] (ts ++ capV σ is) H' s₅ /\ ts.length = tn.length /\ tnx i s₅.heap /\ (∀ b ∈ fp,H' b = none) /\ W i m ys H') (fun _ _ => False) s₄) (fun _ _ => False) s9:=fun {s9 H9} I9 q9 => by
        have ze:=he' _ s9 _ H9 _ I9 q9
        rw [hxe] at ze
        refine thn (hrun ze) fun y s10 ⟨yv,H10,I10,ry,ha10,m',hm',w10⟩ => ?_
        have za:=(mt_append (X:=X')) ([] ++ pinsAt fp s7.heap) s10 (us2 ++ capV σ is) H10 (.ref s2.heap.objs.size) [yv] (.ref s2.heap.objs.size) [y] (fun v H' => v = .non /\ H' = upd H10 s2.heap.objs.size (.lst (ys ++ [yv]))) I10 rfl (.cons ry .nil)
          ⟨_,ys,yv,rfl,rfl,ha10,hlen,rfl,rfl⟩
        rw [hxe] at za
        refine thn (hrun za) fun _ s11 ⟨_,H11,I11,_,_,e11⟩ => ?_
        subst e11
        obtain ⟨b1,b2⟩:=back I11
        exact ⟨m',hm',i + 1,_,us2,_,I11.unpinned,hus,b1,b2,w10⟩
      cases ifs with
      | nil =>
        cases tc with
        | some t => exact ht'.elim
        | none => exact wpAny_tests_nil (by rw [if_pos rfl]; exact made I8 q8)
      | cons c0 rest =>
        cases rest with
        | cons _ _ => cases tc <;> exact ht'.elim
        | nil =>
          cases tc with
          | none => exact ht'.elim
          | some t =>
            have zt:=(show PT X' c0 t from ht') _ s8 _ H8 _ I8 q8
            rw [hxe] at zt
            refine wpAny_tests_one (thn (hrun zt) fun ok s9 ⟨H9,I9,q9⟩ => ?_)
            cases ok with
            | true => rw [if_pos rfl]; rw [if_pos rfl] at q9; exact made I9 q9
            | false =>
              rw [if_neg Bool.false_ne_true]
              rw [if_neg Bool.false_ne_true] at q9
              obtain ⟨m',hm',w9⟩:=q9
              obtain ⟨b1,b2⟩:=back I9
              exact ⟨m',hm',i + 1,_,us2,_,I9.unpinned,hus,b1,b2,w9⟩
  have st4:tnx 0 h1:=T.keep _ _ _ st2 fun b hb o e => kp b o (keep23 b o e)
  have goal0:=loop _ I4 st4
  rw [henv] at goal0
  refine codeAny_compStart_list goal0 (T.self X.A 0 _ _ _ st4 goal0)
theorem pe_comp (ck:CompOk X scope tn names is) (hc:X.calm = true) (hi:PI X tg iter wi)
    (hg:∀ C s0 H0 ex,PG (cxComp X scope (capsOf X.env names) (tn ++ names) C s0 H0 ex) tg g) (he:∀ C s0 H0 ex,PE (cxComp X scope (capsOf X.env names) (tn ++ names) C s0 H0 ex) elt te)
    (ht:∀ C s0 H0 ex,PTs (cxComp X scope (capsOf X.env names) (tn ++ names) C s0 H0 ex) ifs tc) (hs:∀ x,foldedSetIterable iter X.env x = pure x:=by intro _; rfl) :
    PE X (.ListComp elt [⟨tg,iter,ifs,0⟩] scope pos) (tComp wi te tc g tn.length is):=by
  intro pins s σ H Q I h
  rw [eval_ListComp]
  refine wpAny_comprehension_free (use:=none) rfl hs (ck.cls fun x hx => I.ok.has x (ck.outk x hx)) ck.kind ck.nms (thn (hi pins s σ H _ I h) fun v s1 h1 => thn h1 fun itv s2 h2 => ?_)
  refine comp_run (RR:=fun acc C => compPost (model X.prog X.w) X.A X.xe none (EP X pins σ Q) acc C) (ok:=fun X => X.calm = true) ck (fun _ _ _ _ => hc) hg he ht (pie_g h2) fun acc C H' s' m I' hn hC hL hcl hpn hsz q => ?_
  refine ⟨m,hn,fun h' sb => ⟨.ref acc,H',?_,rfl,q⟩⟩
  exact I'.turned (t':=s'.toks) (fun b o hb e => sb.extBut b o hb e) hC hL (.inr hsz) hcl hpn
theorem ps_setC {i:Nat} {x:Str} {pos' spos:Pos} (hN:X.N.Nodup) (hi':X.N[i]? = some x) (hx:Loc X.env.scope x) (ck:CompOk X scope tn names is) (hc:X.calm = true) (hi:PI X tg iter wi)
    (hg:∀ C s0 H0 ex,PG (cxComp X scope (capsOf X.env names) (tn ++ names) C s0 H0 ex) tg g) (he:∀ C s0 H0 ex,PE (cxComp X scope (capsOf X.env names) (tn ++ names) C s0 H0 ex) elt te)
    (ht:∀ C s0 H0 ex,PTs (cxComp X scope (capsOf X.env names) (tn ++ names) C s0 H0 ex) ifs tc) (hs:∀ x,foldedSetIterable iter X.env x = pure x:=by intro _; rfl)
    (hsw:swapsWith (.ListComp elt [⟨tg,iter,ifs,0⟩] scope pos) (some (.Name x pos')) spos.line X.env = pure true:=by rfl) (hf:X.fn x = true ∨ X.env.scope.names.lookup x = some .local:=by first | exact .inl rfl | exact .inr rfl | assumption) :
    PS X (.Assign [.Name x pos'] (.ListComp elt [⟨tg,iter,ifs,0⟩] scope pos) spos) (tAsg (tComp wi te tc g tn.length is) (gName i)):=by
  intro pins s σ H D I h
  rw [exec_Assign_Name_used _ _ _ _ hsw]
  refine wpAny_bind (wpAny_standAt (wpAny_bind ?_))
  show wpAny _ X.A (do let _ ← comprehension (.ListComp elt [⟨tg,iter,ifs,0⟩] scope pos) scope X.env _ (newList []) false (eval iter X.env) (some (assign (.Name x pos') X.env))) _ _ s
  refine wpAny_bind (wpAny_mono (wpAny_comprehension_free (use:=some (assign (.Name x pos') X.env)) (Q:=fun _ s' => SP X pins D .next s') rfl hs (ck.cls fun x hx => I.ok.has x (ck.outk x hx)) ck.kind ck.nms
    (thn (hi pins s σ H _ I h) fun v s1 h1 => thn h1 fun itv s2 h2 => ?_)) (fun _ s' hq => wpAny_pure (wpAny_pure hq)) fun _ _ e => e)
  refine comp_run (RR:=fun acc C => compPost (model X.prog X.w) X.A X.xe (some (assign (.Name x pos') X.env)) (fun _ s' => SP X pins D .next s') acc C) (ok:=fun X => X.calm = true) ck (fun _ _ _ _ => hc) hg he ht (pie_g h2) fun acc C H' s' m I' hn hC hL hcl hpn hsz q => ?_
  show wpAny _ X.A (assign (.Name x pos') X.env (.ref acc)) _ _ s'
  refine wpAny_assign_Name (store_ok2 I' hN hi' hx (v:=.ref acc) rfl (fun s'' I'' sb => ?_) hf)
  obtain ⟨a,sb,ha⟩:=sb
  have hne:C ≠ a:=by
    rcases ha with rfl | ha
    . exact hL
    . exact fun z => hcl x a ha z.symm
  refine ⟨m,hn.sameBut sb hne,fun h' sb' => ⟨_,H',I''.turned (t':=s''.toks) (fun b o hb e => sb'.extBut b o hb e) hC hL (.inr hsz) hcl hpn,q⟩⟩
end
section
variable {te:TE} {Q:VK} {H:Hp} {σ caps:St} {wi:TI} {tc:TT} {K:PySem.W.Frag}
theorem r_comp {o:Option TT} {g:TG} {k:Nat} {is:List Nat} (h:wi σ H (compK te o g (List.replicate k none) (capV σ is) Q)):tComp wi te o g k is σ H Q:=h
theorem len1 {us:St} (h:us.length = 1):∃ o,us = [o]:=by
  cases us with
  | nil => cases h
  | cons o r =>
    cases r with
    | nil => exact ⟨o,rfl⟩
    | cons _ _ => simp at h
noncomputable def cW (n:Nat) (acc:Addr) (Pv:Nat -> List V -> Hp -> Prop):Nat -> Nat -> List V -> Hp -> Prop:=fun i m ys H1 => m = n - i /\ i <= n /\ ys.length = i /\ H1 acc = some (.lst ys) /\ Pv i ys H1
noncomputable def cNext (n:Nat) (acc:Addr) (Pv:Nat -> List V -> Hp -> Prop) (ys:List V) (i:Nat):VK:=fun y H3 => H3 acc = some (.lst ys) /\ ∃ m',m' < n - i /\ cW n acc Pv (i + 1) m' (ys ++ [y]) (upd H3 acc (.lst (ys ++ [y])))
theorem c_next {n:Nat} {acc:Addr} {Pv:Nat -> List V -> Hp -> Prop} {ys:List V} {i:Nat} {y:V} {H3:Hp} (hlt:i < n) (hl:ys.length = i) (ha:H3 acc = some (.lst ys)) (p:Pv (i + 1) (ys ++ [y]) (upd H3 acc (.lst (ys ++ [y])))):cNext n acc Pv ys i y H3 :=
  ⟨ha,n - (i + 1),by omega,rfl,hlt,by rw [List.length_append,hl]; rfl,upd_same,p⟩
theorem r_compL {a:Addr} {xs:List V} (hn:xs.length <= 1000) (Pv:Addr -> Nat -> List V -> Hp -> Prop) (h0:∀ acc,H acc = none -> Pv acc 0 [] (upd H acc (.lst []))) (hl':∀ acc i ys H1,H acc = none -> i <= xs.length -> Pv acc i ys H1 -> SqL K H1 a xs)
    (hs:∀ acc i ys H1 x,H acc = none -> xs[i]? = some x -> ys.length = i -> H1 acc = some (.lst ys) -> Pv acc i ys H1 -> te (some x :: caps) H1 (cNext xs.length acc (Pv acc) ys i))
    (hd:∀ acc ys H1,H acc = none -> H1 acc = some (.lst ys) -> ys.length = xs.length -> Pv acc xs.length ys H1 -> Q (.ref acc) H1):compK te none (gName 0) (List.replicate 1 none) caps Q (Itl K a) H:=by
  intro acc hacc
  refine ⟨cW xs.length acc (Pv acc),⟨xs.length,by simp,Nat.zero_le _,rfl,upd_same,h0 acc hacc⟩,?_⟩
  rintro i m ys H1 ⟨rfl,hi,hl,ha,p⟩
  have q:=hl' acc i ys H1 hacc hi p
  refine ⟨ha,?_⟩
  by_cases hlt:i < xs.length
  . refine .inr ⟨small1000 (by omega),⟨xs,xs[i],q,by simp [hlt]⟩,fun us x H' hu y => ?_⟩
    obtain ⟨e,y⟩:=y
    subst e
    obtain ⟨o,rfl⟩:=len1 hu
    exact ⟨⟨[some x],rfl,rfl⟩,hs acc i ys _ x hacc (y xs q) hl ha p⟩
  . have e:i = xs.length:=by omega
    subst e
    exact .inl ⟨⟨xs,q,Nat.le_refl _⟩,hd acc ys H1 hacc ha hl p⟩
end
end L2
namespace L2
open PySem
section
variable {H:Hp} {Q:VK} {u v:V} {a b c d:Int} {m n:Nat} {K:PySem.W.Frag}
end
end L2
namespace L2
theorem dvd_cop' {k n m:Int} (h:k ∣ n * m) (g:Int.gcd k n = 1):k ∣ m:=by
  have q:=Int.dvd_gcd_mul_iff_dvd_mul.mpr h
  rw [g] at q
  simpa using q
noncomputable def Sz (n:Nat) (q:Rat):Prop:=q.num.natAbs < 2 ^ n /\ q.den < 2 ^ n
theorem Sz.mono {m n:Nat} {q:Rat} (h:Sz m q) (l:m <= n):Sz n q :=
  have:=Nat.pow_le_pow_right (n:=2) (by decide) l
  ⟨Nat.lt_of_lt_of_le h.1 this,Nat.lt_of_lt_of_le h.2 this⟩
theorem Sz.divInt {t b:Int} {n:Nat} (hb:b ≠ 0) (ht:t.natAbs < 2 ^ n) (hs:b.natAbs < 2 ^ n):Sz n (Rat.divInt t b):=by
  have e:Rat.divInt (Rat.divInt t b).num (Rat.divInt t b).den = Rat.divInt t b:=Rat.num_divInt_den _
  have hd:((Rat.divInt t b).den:Int) ≠ 0:=by have:=(Rat.divInt t b).den_pos; omega
  rw [Rat.divInt_eq_divInt_iff hd hb] at e
  generalize hq:Rat.divInt t b = q at *
  -- num * b = t * den,lowest
  have hc:Int.gcd q.num q.den = 1:=q.reduced
  have h1:(q.den:Int) ∣ b:=dvd_cop' (k:=q.den) (n:=q.num) ⟨t,by rw [e,Int.mul_comm]⟩ (by rw [Int.gcd_comm]; exact hc)
  obtain ⟨m,em⟩:=h1
  have e2:t = q.num * m:=by
    have:t * q.den = (q.num * m) * q.den:=by rw [← e,em]; grind
    exact Int.eq_of_mul_eq_mul_right hd this
  have m0:m ≠ 0:=by rintro rfl; simp at em; exact hb em
  have hm:1 <= m.natAbs:=by omega
  constructor
  . refine Nat.lt_of_le_of_lt ?_ ht
    rw [e2,Int.natAbs_mul]
    exact Nat.le_mul_of_pos_right _ hm
  . refine Nat.lt_of_le_of_lt ?_ hs
    rw [em,Int.natAbs_mul]
    have:(q.den:Int).natAbs = q.den:=by omega
    rw [this]
    exact Nat.le_mul_of_pos_right _ hm
theorem add_divInt (q r:Rat):q + r = Rat.divInt (q.num * r.den + r.num * q.den) (q.den * r.den):=by
  have h1:(q.den:Int) ≠ 0:=by have:=q.den_pos; omega
  have h2:(r.den:Int) ≠ 0:=by have:=r.den_pos; omega
  have:=Rat.divInt_add_divInt q.num r.num h1 h2
  rw [Rat.num_divInt_den,Rat.num_divInt_den] at this
  exact this
theorem mul_divInt (q r:Rat):q * r = Rat.divInt (q.num * r.num) (q.den * r.den):=by
  have:=Rat.divInt_mul_divInt q.num r.num (d₁:=q.den) (d₂:=r.den)
  rw [Rat.num_divInt_den,Rat.num_divInt_den] at this
  exact this
theorem pow_lt2 {x y m n:Nat} (h1:x < 2 ^ m) (h2:y < 2 ^ n):x * y < 2 ^ (m + n):=by
  rw [Nat.pow_add]
  exact Nat.mul_lt_mul'' h1 h2
theorem Sz.add {m n:Nat} {q r:Rat} (h1:Sz m q) (h2:Sz n r):Sz (m + n + 1) (q + r):=by
  rw [add_divInt]
  have h3:=q.den_pos
  have h4:=r.den_pos
  refine Sz.divInt (Int.ne_of_gt (Int.mul_pos (by omega) (by omega))) ?_ ?_
  . have a1:=pow_lt2 h1.1 h2.2
    have a2:=pow_lt2 h2.1 h1.2
    have e1:(q.num * r.den).natAbs = q.num.natAbs * r.den:=by rw [Int.natAbs_mul]; rfl
    have e2:(r.num * q.den).natAbs = r.num.natAbs * q.den:=by rw [Int.natAbs_mul]; rfl
    rw [Nat.add_comm n m] at a2
    rw [Nat.pow_succ]
    omega
  . have a1:=pow_lt2 h1.2 h2.2
    have e1:((q.den:Int) * r.den).natAbs = q.den * r.den:=by rw [Int.natAbs_mul]; rfl
    rw [Nat.pow_succ]
    omega
theorem Sz.neg {n:Nat} {q:Rat} (h:Sz n q):Sz n (-q):=⟨by rw [Rat.neg_num,Int.natAbs_neg]; exact h.1,h.2⟩
theorem Sz.sub {m n:Nat} {q r:Rat} (h1:Sz m q) (h2:Sz n r):Sz (m + n + 1) (q - r):=by
  rw [Rat.sub_eq_add_neg]
  exact h1.add h2.neg
theorem Sz.mul {m n:Nat} {q r:Rat} (h1:Sz m q) (h2:Sz n r):Sz (m + n) (q * r):=by
  rw [mul_divInt]
  have h3:=q.den_pos
  have h4:=r.den_pos
  refine Sz.divInt (Int.ne_of_gt (Int.mul_pos (by omega) (by omega))) ?_ ?_
  . rw [Int.natAbs_mul]; exact pow_lt2 h1.1 h2.1
  . have a1:=pow_lt2 h1.2 h2.2
    have e1:((q.den:Int) * r.den).natAbs = q.den * r.den:=by rw [Int.natAbs_mul]; rfl
    omega
end L2
namespace L2
noncomputable def Bd (D M:Nat) (q:Rat):Prop:=q.den ∣ D /\ -((M:Nat):Rat) <= q /\ q <= ((M:Nat):Rat)
theorem le_mul1 {a b:Int} (ha:0 <= a) (hb:1 <= b):a <= a * b:=by
  have:=Int.mul_le_mul_of_nonneg_left hb ha
  omega
theorem den_dvd {t b:Int} (hb:b ≠ 0):((Rat.divInt t b).den:Int) ∣ b:=by
  have e:Rat.divInt (Rat.divInt t b).num (Rat.divInt t b).den = Rat.divInt t b:=Rat.num_divInt_den _
  have hd:((Rat.divInt t b).den:Int) ≠ 0:=by have:=(Rat.divInt t b).den_pos; omega
  rw [Rat.divInt_eq_divInt_iff hd hb] at e
  have hc:Int.gcd (Rat.divInt t b).num (Rat.divInt t b).den = 1:=(Rat.divInt t b).reduced
  exact dvd_cop' (n:=(Rat.divInt t b).num) ⟨t,by rw [e,Int.mul_comm]⟩ (by rw [Int.gcd_comm]; exact hc)
theorem over {D:Nat} {q:Rat} (h:q.den ∣ D) (hD:D ≠ 0):∃ a:Int,q = Rat.divInt a D:=by
  obtain ⟨m,e⟩:=h
  refine ⟨q.num * m,?_⟩
  have hq:=q.den_pos
  have e1:Rat.divInt (q.num * m) D = Rat.divInt q.num q.den:=by
    rw [Rat.divInt_eq_divInt_iff (by omega) (by omega),e]
    push_cast
    grind
  rw [e1,Rat.num_divInt_den]
theorem den_add {D:Nat} {q r:Rat} (hD:D ≠ 0) (h1:q.den ∣ D) (h2:r.den ∣ D):(q + r).den ∣ D:=by
  obtain ⟨a,rfl⟩:=over h1 hD
  obtain ⟨b,rfl⟩:=over h2 hD
  rw [Rat.divInt_add_divInt a b (by omega) (by omega)]
  have e:Rat.divInt (a * D + b * D) (D * D) = Rat.divInt (a + b) D:=by
    rw [Rat.divInt_eq_divInt_iff (Int.mul_ne_zero (by omega) (by omega)) (by omega)]
    grind
  rw [e]
  exact Int.natCast_dvd_natCast.mp (den_dvd (by omega))
theorem Bd.add {D M N:Nat} {q r:Rat} (hD:D ≠ 0) (h1:Bd D M q) (h2:Bd D N r):Bd D (M + N) (q + r):=by
  obtain ⟨a1,a2,a3⟩:=h1
  obtain ⟨b1,b2,b3⟩:=h2
  refine ⟨den_add hD a1 b1,?_,?_⟩
  . have e:(((M + N:Nat)):Rat) = (M:Rat) + (N:Rat):=by push_cast; rfl
    rw [e]
    grind
  . have e:(((M + N:Nat)):Rat) = (M:Rat) + (N:Rat):=by push_cast; rfl
    rw [e]
    grind
theorem Bd.mono {D M N:Nat} {q:Rat} (h:Bd D M q) (l:M <= N):Bd D N q:=by
  obtain ⟨a1,a2,a3⟩:=h
  have e:(M:Rat) <= (N:Rat):=by
    rw [Rat.le_iff]
    simp
    omega
  exact ⟨a1,by grind,by grind⟩
theorem Bd.sz {D M n:Nat} {q:Rat} (h:Bd D M q) (hD:D ≠ 0) (h1:D < 2 ^ n) (h2:M * D < 2 ^ n):Sz n q:=by
  obtain ⟨a1,a2,a3⟩:=h
  have hle:=Nat.le_of_dvd (by omega) a1
  have k1:q.num <= M * q.den:=by
    have:=(Rat.le_iff q (M:Rat)).mp a3
    simpa using this
  have k2:-(M * q.den:Int) <= q.num:=by
    have:=(Rat.le_iff (-(M:Rat)) q).mp a2
    have e1:(-(M:Rat)).num = -(M:Int):=by rw [Rat.neg_num]; simp
    have e2:(-(M:Rat)).den = 1:=by rw [Rat.neg_den]; simp
    rw [e1,e2] at this
    simp at this
    have e3:-(M:Int) * q.den = -((M:Int) * q.den):=by grind
    omega
  refine ⟨?_,by omega⟩
  have k3:M * q.den <= M * D:=Nat.mul_le_mul_left _ hle
  have k4:((M * q.den:Nat):Int) = (M:Int) * q.den:=by push_cast; rfl
  omega
theorem Bd.of {q:Rat} {M:Nat} (h:q.num.natAbs <= M):Bd q.den M q:=by
  have hp:=q.den_pos
  refine ⟨Nat.dvd_refl _,?_,?_⟩
  . rw [Rat.le_iff]
    have e1:(-(M:Rat)).num = -(M:Int):=by rw [Rat.neg_num]; simp
    have e2:(-(M:Rat)).den = 1:=by rw [Rat.neg_den]; simp
    rw [e1,e2]
    have:(M:Int) <= (M:Int) * q.den:=le_mul1 (by omega) (by omega)
    have e3:-(M:Int) * q.den = -((M:Int) * q.den):=by grind
    simp
    omega
  . rw [Rat.le_iff]
    have:(M:Int) <= (M:Int) * q.den:=le_mul1 (by omega) (by omega)
    simp
    omega
theorem Bd.dvd {D E M:Nat} {q:Rat} (h:Bd D M q) (d:D ∣ E):Bd E M q:=⟨Nat.dvd_trans h.1 d,h.2⟩
end L2
namespace L2
open PySem
noncomputable def Ris (xs:Array Nat):Prop:=xs.toList.Pairwise (· < ·)
theorem Ris.lt {xs:Array Nat} (h:Ris xs) {i j:Nat} (hij:i < j) (hj:j < xs.size):xs[i]'(Nat.lt_trans hij hj) < xs[j]:=by
  have:=List.pairwise_iff_getElem.mp h i j (by simpa using Nat.lt_trans hij hj) (by simpa using hj) hij
  simpa using this
theorem Ris.le {xs:Array Nat} (h:Ris xs) {i j:Nat} (hij:i <= j) (hj:j < xs.size):xs[i]'(Nat.lt_of_le_of_lt hij hj) <= xs[j]:=by
  rcases Nat.lt_or_eq_of_le hij with h1 | h1
  . exact Nat.le_of_lt (h.lt h1 hj)
  . subst h1
    exact Nat.le_refl _
noncomputable def Tb (w:World) (t:SetTable) (_n:Nat):Prop:=t.led = !(w.params.followText "set-order") /\ Ris t.place /\ t.dummies = #[]
section
variable {prog:Program} {w:World} {K:Type} [DecidableEq K] {knd:KeyKind prog w K} {A:Around} {E:Value -> Shared -> Prop} {s:Shared}
end
end L2
namespace L2
open PySem
section
variable {prog:Program} {w:World} {A:Around} {E:Value -> Shared -> Prop} {s:Shared}
end
end L2
namespace L2
open PySem
noncomputable def setObj (es:Array (Int×Value)) (ep:Nat) (t:SetTable):Obj:={ cls:=.type "set",dict:=none,data:=.set es ep t,slots:=#[] }
noncomputable def IsSI (h:Heap) (it:Addr) (first:Value) (i:Nat) (a:Addr) (n ep:Nat):Prop :=
  ∃ o,h.get? it = some o /\ o.cls = .type "set_iterator" /\ o.data = .fields #[first,.int i 0,.ref a,.int n 0,.int ep 0]
theorem IsSI.typeIs {s:Shared} {it a:Addr} {first:Value} {i n ep:Nat} (x:IsSI s.heap it first i a n ep):s.TypeIs (.ref it) "set_iterator":=let ⟨o,ho,hc,_⟩:=x; ⟨o,ho,hc⟩
section
variable {prog:Program} {w:World} {A:Around} {E:Value -> Shared -> Prop} {s:Shared}
variable {a it:Addr} {es:Array (Int×Value)} {ep i n:Nat} {t:SetTable} {first:Value}
end
end L2
namespace L2
open PySem
section
variable {prog:Program} {w:World} {A:Around} {E:Value -> Shared -> Prop} {s:Shared} {a it:Addr} {es:Array (Int×Value)} {ep i n:Nat} {t:SetTable}
end
section
variable {prog:Program} {w:World} {A:Around} {E:Value -> Shared -> Prop} {s:Shared} {a it:Addr} {es:Array (Int×Value)} {ep i n:Nat} {t:SetTable}
theorem IsSI.at {h h':Heap} {first:Value} (x:IsSI h it first i a n ep) (e:∀ o,h.get? it = some o -> h'.get? it = some o):IsSI h' it first i a n ep:=let ⟨o,ho,r⟩:=x; ⟨o,e _ ho,r⟩
end
end L2
namespace L2
open PySem
section
variable {prog:Program} {w:World} {A A₂:Around} {E:Value -> Shared -> Prop} {s:Shared} {a it:Addr} {es:Array (Int×Value)} {ep i n:Nat} {t:SetTable}
end
end L2
namespace L2
open PySem
section
variable {prog:Program} {w:World} {A A₂:Around} {E:Value -> Shared -> Prop} {s:Shared} {a it:Addr} {es:Array (Int×Value)} {ep i n:Nat} {t:SetTable}
end
end L2
namespace L2
open PySem
noncomputable def txOf:Value -> Str
  | .str x _ => x
  | _ => ⟨#[]⟩
noncomputable def TxSet (w:World) (h:Heap) (a:Addr) (xs:List Str):Prop :=
  ∃ es ep t,h.get? a = some (setObj es ep t) /\ (∀ e ∈ es.toList,∃ y u,e = (hashStr w y,Value.str y u)) /\ es.toList.map (fun e => txOf e.2) = xs /\ xs.Nodup /\ es.size < scanBound /\ t.fits es.size = true /\ Tb w t es.size
theorem TxSet.at {w:World} {h h':Heap} {a:Addr} {xs:List Str} (x:TxSet w h a xs) (e:∀ o,h.get? a = some o -> h'.get? a = some o):TxSet w h' a xs :=
  let ⟨es,ep,t,g,r⟩:=x; ⟨es,ep,t,e _ g,r⟩
theorem TxSet.size {w:World} {h:Heap} {a:Addr} {xs:List Str} (x:TxSet w h a xs):xs.length < scanBound:=by
  obtain ⟨es,ep,t,g,_,e,_,b,_⟩:=x
  rw [← e]
  simpa using b
section
variable {prog:Program} {w:World} {A:Around} {E:Value -> Shared -> Prop} {s:Shared} {a:Addr}
end
section
variable {prog:Program} {w:World} {A:Around} {R:Result -> Shared -> Prop} {I:Addr} {fp wr:List Addr} {G:Array GenState -> Array GenState -> Prop} {n:Nat} {P:Nat -> Value -> Prop} {St:Nat -> Shared -> Prop}
end
end L2
namespace L2
open PySem
section
variable {prog:Program} {w:World} {A:Around} {E:Value -> Shared -> Prop} {s:Shared}
end
end L2
namespace L2
open PySem PyProof.Rows
section
variable {prog:Program} {w:World} {A:Around} {E:Value -> Shared -> Prop} {s:Shared}
end
end L2
namespace L2
open PySem PyProof.Rows
section
variable {prog:Program} {w:World} {K:Type} [DecidableEq K] {knd:KeyKind prog w K} {A A₂:Around} {E:Value -> Shared -> Prop} {s:Shared} {a it:Addr} {kvs:List (K×Value)} {ep:Nat}
end
end L2
namespace L2
open PySem PyProof.Rows
section
variable {prog:Program} {w:World} {A:Around} {E:Value -> Shared -> Prop} {s:Shared}
variable {K:Type} [DecidableEq K] {knd:KeyKind prog w K}
end
end L2
namespace L2
open PySem PyProof.Rows
section
variable {prog:Program} {w:World} {K:Type} [DecidableEq K] {knd:KeyKind prog w K} {A:Around} {E:Value -> Shared -> Prop} {s:Shared} {d:Addr} {kvs:List (K×Value)} {k:K} {key dflt:Value}
end
end L2
namespace L2
open PySem PyProof.Rows
end L2
namespace L2
open PySem PySem.Spec PyProof.Rows
noncomputable def melt (a:Addr) (H:Hp):Hp:=fun b => if b = a then (match H a with | some (.frz _ u) => some u | o => o) else H b
theorem melt_ne {a b:Addr} {H:Hp} (h:b ≠ a):melt a H b = H b:=by unfold melt; rw [if_neg h]
theorem melt_at {a:Addr} {H:Hp} {o:Obj} {u:HO} (h:H a = some (.frz o u)):melt a H a = some u:=by unfold melt; rw [if_pos rfl,h]
theorem melt_none {a b:Addr} {H:Hp} (h:H b = none):melt a H b = none:=by
  unfold melt
  split
  . rename_i e
    subst e
    rw [h]
  . exact h
theorem melt_old {a b:Addr} {H:Hp} {o:HO} (hn:∀ ob u,o ≠ .frz ob u) (h:H b = some o):melt a H b = some o:=by
  unfold melt
  split
  . rename_i e
    subst e
    rw [h]
    cases o <;> first | rfl | exact absurd rfl (hn _ _)
  . exact h
section
variable {X:Cx} {pins:List (Addr×Obj)} {σ:St} {H:Hp} {s:Shared} {a:Addr}
theorem Inv.melt (I:Inv X pins σ H s) (h0:∀ o u,X.H₀ a ≠ some (.frz o u)):Inv X pins σ (L2.melt a H) s:=by
  refine ⟨I.ok,I.os,I.bare,⟨I.base.keep,I.base.slot,fun b o e n hx => melt_none (I.base.free b o e n hx),I.base.there,fun b xs e => melt_old (fun _ _ z => nomatch z) (I.base.tups b xs e),fun b o u e => ?_,fun b ps e => ?_⟩,
    I.loc,I.cell,melt_none I.free,fun x c e => melt_none (I.freeC x c e),fun p hp => ?_,fun b u e => ?_,I.len⟩
  . have hb:b ≠ a:=fun z => by subst z; exact h0 _ _ e
    rw [melt_ne hb]
    exact I.base.frzs b o u e
  . obtain ⟨more,q⟩:=I.base.tbls b ps e
    exact ⟨more,melt_old (fun _ _ z => nomatch z) q⟩
  . obtain ⟨e,n,r⟩:=I.pin p hp
    exact ⟨e,melt_none n,r⟩
  . have st:∀ {v:HO},ObjOk X.prog X.w H s.heap b v -> ObjOk X.prog X.w (L2.melt a H) s.heap b v:=fun {v} x =>
      x.stay (fun _ _ _ q => q) (fun c q => melt_old (fun _ _ z => nomatch z) q) fun c xs q => melt_old (fun _ _ z => nomatch z) q
    by_cases hb:b = a
    . subst hb
      cases q:H b with
      | none => rw [melt_none q] at e; cases e
      | some z =>
        have hz:=I.hok b z q
        by_cases hf:∃ o v,z = .frz o v
        . obtain ⟨o,v,rfl⟩:=hf
          rw [melt_at q] at e
          cases e
          exact st hz.2
        . rw [melt_old (fun o v w => hf ⟨o,v,w⟩) q] at e
          cases e
          exact st hz
    . rw [melt_ne hb] at e
      exact st (I.hok b u e)
end
section
variable {X:Cx} {tg:Expr}
noncomputable def Dm (a:Addr) (D:Ends):Ends:=⟨fun σ H => D.nx σ (melt a H),fun v H => D.rt v (melt a H),fun σ H => D.bk σ (melt a H),fun σ H => D.ct σ (melt a H)⟩
noncomputable def NoFrz (H:Hp) (a:Addr):Prop:=∀ o u,H a ≠ some (.frz o u)
variable {scope:Scope} {tn names:List Str} {is:List Nat} {elt iter:Expr} {ifs:List Expr} {pos:Pos} {tl te:TE} {tc:Option TT} {g:TG}
end
end L2
namespace L2
open PySem PySem.Spec PyProof.Rows
section
variable {X:Cx} {pins:List (Addr×Obj)} {σ:St} {H:Hp} {s:Shared} {tg:Expr}
noncomputable def Ite (K:PySem.W.Frag) (a:Addr):It :=
  ⟨fun i H => ∃ xs x,SqL K H a xs /\ xs[i]? = some x,fun i H v H' => ∃ T x,v = .ref T /\ H T = none /\ H' = upd H T (.tup [.int i,x]) /\ ∀ xs,SqL K H a xs -> xs[i]? = some x,fun i H => ∃ xs,SqL K H a xs /\ xs.length <= i⟩
theorem turn_enum {P:Program} {w:World} {K:PySem.W.Frag} {elts:List Expr} {k1:Nat} {tpos:Pos} (a e it:Addr) (hei:e ≠ it) :
    Turn P w K (.Tuple elts k1 tpos) (Ite K a) [e,it] e (fun i h => (∃ old,IsEnum h e it i old) /\ h.IsListIter it a i) where
  mem:=by simp
  obj:=fun i h st b hb => by
    obtain ⟨⟨old,he⟩,o,e1,c,d⟩:=st
    rcases List.mem_cons.mp hb with rfl | hb
    . exact ⟨_,he,fun v z => nomatch z⟩
    . have hb:b = it:=by simpa using hb
      subst hb
      exact ⟨o,e1,fun v z => by rw [d] at z; cases z⟩
  keep:=fun i h h' ⟨⟨old,he⟩,st⟩ k => ⟨⟨old,k e (by simp) _ he⟩,st.at fun o q => k it (by simp) o q⟩
  item:=by
    intro X hP hw hK hc i pins s σ H E I hf st hg
    subst hP hw hK
    obtain ⟨xs,x,hq,hx⟩:=hg
    obtain ⟨its,rv,p,hz⟩:=I.list hq
    obtain ⟨u,hu,ru⟩:=rv.get hx
    obtain ⟨⟨old,he⟩,hit⟩:=st
    obtain ⟨f0,f1,f2,f3,f4,f5⟩:=hf e (by simp)
    obtain ⟨g0,g1,g2,g3,g4,g5⟩:=hf it (by simp)
    refine wpAny_pyNext_enum_item he hit p.isList (by simpa using hu) hei fun h' ho hit' hT hsz hk => ?_
    refine ⟨_,rfl,wpAny_letOwnedTupleGo_enum (s:={ s with heap:=h',toks:=s.toks + 1 }) ho fun h2 he2 sb => ?_⟩
    have hTn:H s.heap.objs.size = none:=I.hok.fresh (Nat.le_refl _)
    have hTe:s.heap.objs.size ≠ e:=Nat.ne_of_gt (Heap.lt_size he)
    have hTi:s.heap.objs.size ≠ it:=by obtain ⟨_,q,_⟩:=hit; exact Nat.ne_of_gt (Heap.lt_size q)
    have k2:∀ b o,b ≠ e -> b ≠ it -> s.heap.get? b = some o -> h2.get? b = some o:=fun b o n1 n2 q => (sb.2 b n1).trans (hk b o n1 n2 q)
    -- first the iterators turn,then the tuple is tracked
    have I1:Inv X pins σ H { s with heap:=h2,toks:=s.toks + 1 }:=by
      refine I.step (g':=s.gens) (d':=s.drawn) (t':=s.toks + 1) (ch:=[e,it]) (fun b hb => ?_) (fun b o _ _ hb q _ => k2 b o (fun z => hb (by simp [z])) (fun z => hb (by simp [z])) q) (fun b o _ _ hb q _ => ⟨o.slots,k2 b o (fun z => hb (by simp [z])) (fun z => hb (by simp [z])) q⟩)
        (fun b o _ _ q => q) (fun b o hb q => ⟨o,k2 b o (fun z => hb (by simp [z])) (fun z => hb (by simp [z])) q⟩) (fun _ _ q => q) (fun _ _ _ q => q) (fun _ ps q => ⟨#[],by simpa using q⟩) (fun m hm => ?_) ?_ I.bare
      . rcases List.mem_cons.mp hb with rfl | hb
        . exact ⟨f3,f1,f4,f5⟩
        . have hb:b = it:=by simpa using hb
          subst hb
          exact ⟨g3,g1,g4,g5⟩
      . obtain ⟨o,es,ep,q,r⟩:=hm
        exact ⟨o,es,ep,k2 _ _ (Ne.symm f1) (Ne.symm g1) q,r⟩
      . intro b u q
        refine (I.hok b u q).stay (fun c v hc r => k2 c v ?_ ?_ r) (fun _ q => q) fun _ _ q => q
        . rintro rfl
          rcases hc with rfl | hc
          . rw [f0] at q; cases q
          . rw [f0] at hc; cases hc
        . rintro rfl
          rcases hc with rfl | hc
          . rw [g0] at q; cases q
          . rw [g0] at hc; cases hc
    have hT2:h2.get? s.heap.objs.size = some { cls:=.type "tuple",data:=.seq #[.int i s.toks,u] }:=(sb.2 _ hTe).trans hT
    have I2:Inv X pins σ (upd H s.heap.objs.size (.tup [.int i,x])) { s with heap:=h2,toks:=s.toks + 1 }:=by
      have nn:∀ {b:Addr},b < s.heap.objs.size -> H b = none -> upd H s.heap.objs.size (.tup [.int i,x]) b = none:=fun {b} hb e => by rw [upd_ne (Nat.ne_of_lt hb)]; exact e
      have old:∀ {b:Addr} {o:HO},H b = some o -> upd H s.heap.objs.size (.tup [.int i,x]) b = some o:=fun {b o} e => by rw [upd_ne (ne_of_none e hTn)]; exact e
      refine ⟨I1.ok,I1.os,I1.bare,⟨I1.base.keep,I1.base.slot,fun b o q n hx => nn ?_ (I1.base.free b o q n hx),I1.base.there,fun b ys q => old (I1.base.tups b ys q),fun b o v q => old (I1.base.frzs b o v q),fun b ps q => ?_⟩,I1.loc,I1.cell,nn I.lt I1.free,fun y c q => nn ?_ (I1.freeC y c q),fun p hp => ?_,fun b o q => ?_,I1.len⟩
      . exact Nat.lt_of_lt_of_le (Heap.lt_size q) I.sz
      . obtain ⟨more,z⟩:=I1.base.tbls b ps q
        exact ⟨more,old z⟩
      . obtain ⟨v,z⟩:=I.cell y c q
        exact z.lt
      . obtain ⟨z1,z2,z3⟩:=I1.pin p hp
        exact ⟨z1,nn (Heap.lt_size (I.pin p hp).1) z2,z3⟩
      . by_cases hb:b = s.heap.objs.size
        . subst hb
          rw [upd_same] at q
          cases q
          exact ⟨⟨by rw [sizeLine_eq]; simp,_,hT2,rfl⟩,[.int i s.toks,u],.cons ⟨_,rfl⟩ (.cons ru .nil),_,hT2,rfl,_,rfl⟩
        . rw [upd_ne hb] at q
          exact (I1.hok b o q).stay (fun _ _ _ z => z) (fun c z => old z) fun c ys z => old z
    exact ⟨.ref s.heap.objs.size,_,I2,rfl,⟨s.heap.objs.size,x,rfl,hTn,rfl,fun ys hy => by rw [I.list_inj hy hq]; exact hx⟩,⟨⟨u,by simpa using he2⟩,hit'.at fun o q => (sb.2 it (Ne.symm hei)).trans q⟩,fun b hb => by
      rcases List.mem_cons.mp hb with rfl | hb
      . rw [upd_ne (Ne.symm hTe)]; exact f0
      . have hb:b = it:=by simpa using hb
        subst hb
        rw [upd_ne (Ne.symm hTi)]; exact g0⟩
  done:=by
    intro X hP hw hK hc i pins s σ H E I hf st hg
    subst hP hw hK
    obtain ⟨xs,hq,hx⟩:=hg
    obtain ⟨its,rv,p,hz⟩:=I.list hq
    obtain ⟨⟨old,he⟩,hit⟩:=st
    obtain ⟨g0,g1,g2,g3,g4,g5⟩:=hf it (by simp)
    have hl:=rv.length
    exact wpAny_pyNext_enum_end (I.ok.hd hc) he hit p.isList (by simp; omega) fun h' eb => ⟨rfl,I.turned (t':=s.toks) (fun b o hb e => eb b o hb e) g0 g1 g3 g4 g5⟩
  self:=fun _ _ _ _ _ ⟨⟨_,he⟩,_⟩ h => wpAny_pyIter_enum he h
noncomputable def iEnum (K:PySem.W.Frag) (tl:TA):TI:=fun σ H R => tl σ H fun vs H1 => ∃ a,vs = [.ref a] /\ (∃ xs,SqL K H1 a xs) /\ R (Ite K a) H1
theorem pi_enum {l:Expr} {tl:TA} {elts:List Expr} {k1:Nat} {tpos p pos:Pos} (hg:Gl X "enumerate") (hm:X.mg "enumerate" = none) (ha:PA X [l] tl) (hs:starEach [l] X.env = [(false,eval l X.env)]:=by rfl) :
    PI X (.Tuple elts k1 tpos) (.Call (.Name "enumerate" p) [l] [] pos) (iEnum X.K tl):=by
  intro pins s σ H R I h
  refine Call_ (ld_blt I hg hm bt_enumerate (PyProof.Rows.callWith_type1 (thn (ha pos pins s σ H _ I h) fun us s1 ⟨vs,H1,I1,r1,q1⟩ => ?_) hs rfl))
  obtain ⟨a,e,⟨xs,hq⟩,q⟩:=q1
  subst e
  cases r1 with
  | cons r rr =>
    cases rr
    cases r
    obtain ⟨its,rv,p,hz⟩:=I1.list hq
    refine call_enumerate_list p.isList fun h' he hit hsz kp => ?_
    refine wpAny_pyIter_enum he ?_
    have I2:Inv X pins σ H1 { s1 with heap:=h' }:=I1.kept (t':=s1.toks) kp
    refine ⟨_,[s1.heap.objs.size + 1,s1.heap.objs.size],_,_,H1,rfl,I2,turn_enum a _ _ (Nat.ne_of_gt (Nat.lt_succ_self _)),⟨⟨_,he⟩,hit⟩,fun b hb => ?_,q⟩
    rcases List.mem_cons.mp hb with rfl | hb
    . exact I1.fpOk (Nat.le_succ _) (I1.hok.fresh (Nat.le_succ _))
    . have hb:b = s1.heap.objs.size:=by simpa using hb
      subst hb
      exact I1.fpOk (Nat.le_refl _) (I1.hok.fresh (Nat.le_refl _))
theorem Paired.at {α β:Type} {F:α -> β -> Prop}:∀ {xs:List α} {ys:List β} {i:Nat} {x:α},Paired F xs ys -> xs[i]? = some x -> ∃ y,ys[i]? = some y /\ F x y
  | _,_,_,_,.nil,e => by simp at e
  | _,_,0,_,.cons r _,e => by simp at e; subst e; exact ⟨_,rfl,r⟩
  | _,_,i + 1,x,.cons _ t,e => by
    obtain ⟨y,h1,h2⟩:=Paired.at (i:=i) (x:=x) t (by simpa using e)
    exact ⟨y,by simpa using h1,h2⟩
end
end L2
namespace L2
open PySem PySem.Spec PyProof.Rows
section
variable {X:Cx}
end
end L2
namespace L2
section
variable {α:Type} [DecidableEq α]
noncomputable abbrev RunD (α:Type):=α×α×Rat
noncomputable abbrev EntD (α:Type):=Rat×Option (Nat×α)
noncomputable abbrev AL (α β:Type):=List (α×β)
noncomputable def aget {β:Type} (l:AL α β) (k:α):Option β:=(l.find? fun kv => decide (kv.1 = k)).map (·.2)
noncomputable def aput {β:Type} (l:AL α β) (k:α) (v:β):AL α β:=if (l.any fun kv => decide (kv.1 = k)) then l.map (fun kv => if kv.1 = k then (kv.1,v) else kv) else l ++ [(k,v)]
noncomputable def adrop {β:Type} (l:AL α β) (k:α):AL α β:=l.filter fun kv => decide (kv.1 ≠ k)
theorem aget_mem {β:Type} {l:AL α β} {k:α} {v:β} (h:aget l k = some v):(k,v) ∈ l:=by
  unfold aget at h
  rw [Option.map_eq_some_iff] at h
  obtain ⟨kv,h1,h2⟩:=h
  have h3:=List.find?_some h1
  have h4:=List.mem_of_find?_eq_some h1
  simp at h3
  obtain ⟨a,b⟩:=kv
  simp at h2 h3
  subst h2 h3
  exact h4
theorem aget_none {β:Type} {l:AL α β} {k:α} (h:aget l k = none):∀ v,(k,v) ∉ l:=by
  intro v hm
  unfold aget at h
  rw [Option.map_eq_none_iff,List.find?_eq_none] at h
  have:=h _ hm
  simp at this
theorem aget_of {β:Type} {l:AL α β} {k:α} {v:β} (nd:(l.map (·.1)).Nodup) (h:(k,v) ∈ l):aget l k = some v:=by
  cases e:aget l k with
  | none => exact absurd h (aget_none e v)
  | some u =>
    have h2:=aget_mem e
    induction l with
    | nil => cases h
    | cons x r ih =>
      rw [List.map_cons,List.nodup_cons] at nd
      rcases List.mem_cons.mp h with rfl | h'
      . rcases List.mem_cons.mp h2 with h3 | h3
        . cases h3; rfl
        . exact absurd (List.mem_map.mpr ⟨_,h3,rfl⟩) nd.1
      . rcases List.mem_cons.mp h2 with h3 | h3
        . subst h3
          exact absurd (List.mem_map.mpr ⟨_,h',rfl⟩) nd.1
        . have e':aget r k = some u:=by
            unfold aget at e ⊢
            rw [List.find?_cons] at e
            have:(decide (x.1 = k)) = false:=by
              apply decide_eq_false
              intro z
              subst z
              exact nd.1 (List.mem_map.mpr ⟨_,h',rfl⟩)
            rw [this] at e
            exact e
          exact ih nd.2 h' e' h3
theorem mem_aput {β:Type} {l:AL α β} {k:α} {v:β} {x:α} {y:β} (h:(x,y) ∈ aput l k v):(x = k /\ y = v) ∨ (x ≠ k /\ (x,y) ∈ l):=by
  unfold aput at h
  split at h
  . rw [List.mem_map] at h
    obtain ⟨kv,h1,h2⟩:=h
    split at h2
    . rename_i e
      cases h2
      exact .inl ⟨e,rfl⟩
    . rename_i e
      subst h2
      exact .inr ⟨e,h1⟩
  . rename_i e
    rcases List.mem_append.mp h with h1 | h1
    . refine .inr ⟨?_,h1⟩
      rintro rfl
      apply e
      rw [List.any_eq_true]
      exact ⟨_,h1,by simp⟩
    . rw [List.mem_singleton] at h1
      cases h1
      exact .inl ⟨rfl,rfl⟩
theorem aput_mem {β:Type} {l:AL α β} {k:α} {v:β}:(k,v) ∈ aput l k v:=by
  unfold aput
  split
  . rename_i e
    rw [List.any_eq_true] at e
    obtain ⟨kv,h1,h2⟩:=e
    rw [List.mem_map]
    refine ⟨kv,h1,?_⟩
    have:=of_decide_eq_true h2
    rw [if_pos this,this]
  . exact List.mem_append_right _ (List.mem_singleton.mpr rfl)
theorem aput_old {β:Type} {l:AL α β} {k:α} {v:β} {x:α} {y:β} (hx:x ≠ k) (h:(x,y) ∈ l):(x,y) ∈ aput l k v:=by
  unfold aput
  split
  . rw [List.mem_map]
    exact ⟨_,h,by rw [if_neg hx]⟩
  . exact List.mem_append_left _ h
theorem aput_nd {β:Type} {l:AL α β} {k:α} {v:β} (nd:(l.map (·.1)).Nodup):((aput l k v).map (·.1)).Nodup:=by
  unfold aput
  split
  . rw [List.map_map]
    have:((fun x => x.1) ∘ fun (kv:α×β) => if kv.1 = k then (kv.1,v) else kv) = fun kv => kv.1:=by
      funext kv
      simp only [Function.comp]
      split <;> rfl
    rw [this]
    exact nd
  . rename_i e
    rw [List.map_append,List.nodup_append]
    refine ⟨nd,by simp,?_⟩
    intro a ha b hb
    simp at hb
    subst hb
    rintro rfl
    apply e
    rw [List.mem_map] at ha
    obtain ⟨kv,h1,h2⟩:=ha
    rw [List.any_eq_true]
    exact ⟨kv,h1,by simp [h2]⟩
theorem aput_keys {β:Type} {l:AL α β} {k:α} {v:β} {x:α} (h:x ∈ (aput l k v).map (·.1)):x = k ∨ x ∈ l.map (·.1):=by
  rw [List.mem_map] at h
  obtain ⟨⟨a,b⟩,h1,rfl⟩:=h
  rcases mem_aput h1 with ⟨e,_⟩ | ⟨_,e⟩
  . exact .inl e
  . exact .inr (List.mem_map.mpr ⟨_,e,rfl⟩)
theorem mem_adrop {β:Type} {l:AL α β} {k:α} {x:α×β}:x ∈ adrop l k ↔ x ∈ l /\ x.1 ≠ k:=by
  unfold adrop
  rw [List.mem_filter]
  simp
theorem adrop_nd {β:Type} {l:AL α β} {k:α} (nd:(l.map (·.1)).Nodup):((adrop l k).map (·.1)).Nodup:=by
  unfold adrop
  exact nd.sublist (List.filter_sublist.map _)
theorem aget_put {β:Type} (l:AL α β) (k j:α) (v:β):aget (aput l k v) j = if j = k then some v else aget l j:=by
  by_cases e:j = k
  . subst e
    rw [if_pos rfl]
    unfold aget aput
    split
    . rename_i h
      induction l with
      | nil => simp at h
      | cons x r ih =>
        rw [List.map_cons,List.find?_cons]
        by_cases hx:x.1 = j
        . simp [hx]
        . rw [if_neg hx]
          simp only [hx,decide_false]
          apply ih
          rw [List.any_cons] at h
          simpa [hx] using h
    . rename_i h
      induction l with
      | nil => simp
      | cons x r ih =>
        rw [List.any_cons] at h
        have hx:¬ x.1 = j:=fun z => h (by simp [z])
        rw [List.cons_append,List.find?_cons]
        simp only [hx,decide_false]
        exact ih (by simpa [hx] using h)
  . rw [if_neg e]
    unfold aget aput
    split
    . rename_i h
      clear h
      induction l with
      | nil => rfl
      | cons x r ih =>
        rw [List.map_cons,List.find?_cons,List.find?_cons]
        by_cases hx:x.1 = k
        . rw [if_pos hx]
          have:¬ x.1 = j:=fun z => e (z.symm.trans hx)
          simp only [this,decide_false]
          exact ih
        . rw [if_neg hx]
          by_cases hj:x.1 = j
          . simp [hj]
          . simp only [hj,decide_false]
            exact ih
    . rename_i h
      rw [List.find?_append]
      have:List.find? (fun kv => decide (kv.1 = j)) [(k,v)] = none:=by
        simp [Ne.symm e]
      rw [this,Option.or_none]
noncomputable def Jn (r:RunD α) (q p:α):Prop:=(r.1 = q /\ r.2.1 = p) ∨ (r.2.1 = q /\ r.1 = p)
theorem Jn.symm {r:RunD α} {q p:α} (h:Jn r q p):Jn r p q:=h.elim (fun ⟨a,b⟩ => .inr ⟨b,a⟩) fun ⟨a,b⟩ => .inl ⟨b,a⟩
noncomputable def NotOut (tk:Nat -> Option Rat) (k:Nat) (t:Rat):Prop:=∀ u,tk k = some u -> t <= u
theorem NotOut.le {tk:Nat -> Option Rat} {k:Nat} {s t:Rat} (h:NotOut tk k t) (l:s <= t):NotOut tk k s:=fun u e => Rat.le_trans l (h u e)
variable (net:List (RunD α)) (push:α -> Option Rat) (tk:Nat -> Option Rat)
inductive Arr:α -> Rat -> Prop
  | push {p t}:push p = some t -> Arr p t
  | run {q s p k r}:Arr q s -> net[k]? = some r -> Jn r q p -> NotOut tk k (s + r.2.2) -> Arr p (s + r.2.2)
structure Falls (m:α -> Option Rat):Prop where
  arr:∀ p t,m p = some t -> Arr net push tk p t
  le:∀ p t,Arr net push tk p t -> ∃ u,m p = some u /\ u <= t
variable {net push tk}
theorem Falls.uniq {m m':α -> Option Rat} (h:Falls net push tk m) (h':Falls net push tk m'):m = m':=by
  have key:∀ {m m':α -> Option Rat},Falls net push tk m -> Falls net push tk m' -> ∀ p t,m p = some t -> ∃ u,m' p = some u /\ u <= t:=fun h h' p t e => h'.le p t (h.arr p t e)
  funext p
  cases e:m p with
  | none =>
    cases e':m' p with
    | none => rfl
    | some u =>
      obtain ⟨w,e2,_⟩:=key h' h p u e'
      rw [e] at e2
      cases e2
  | some t =>
    obtain ⟨u,e1,l1⟩:=key h h' p t e
    obtain ⟨w,e2,l2⟩:=key h' h p u e1
    rw [e] at e2
    cases e2
    rw [e1]
    exact congrArg some (Rat.le_antisymm l2 l1)
noncomputable def Sup (net:List (RunD α)) (push:α -> Option Rat) (tk:Nat -> Option Rat) (F:AL α (EntD α)) (p:α):EntD α -> Prop
  | (t,none) => push p = some t
  | (t,some (k,q)) => ∃ r e,net[k]? = some r /\ Jn r q p /\ (q,e) ∈ F /\ t = e.1 + r.2.2 /\ NotOut tk k t
theorem Sup.mono {F F':AL α (EntD α)} {p:α} {e:EntD α} (h:Sup net push tk F p e) (s:∀ x ∈ F,x ∈ F'):Sup net push tk F' p e:=by
  obtain ⟨t,o⟩:=e
  cases o with
  | none => exact h
  | some kq =>
    obtain ⟨r,e,a,b,c,d⟩:=h
    exact ⟨r,e,a,b,s _ c,d⟩
noncomputable def Has (W F:AL α (EntD α)) (p:α) (t:Rat):Prop:=∃ e,((p,e) ∈ W ∨ (p,e) ∈ F) /\ e.1 <= t
structure FInv (net:List (RunD α)) (push:α -> Option Rat) (tk:Nat -> Option Rat) (C:α -> Nat -> α -> Prop) (W F:AL α (EntD α)):Prop where
  ndW:(W.map (·.1)).Nodup
  ndF:(F.map (·.1)).Nodup
  dis:∀ p,p ∈ W.map (·.1) -> p ∉ F.map (·.1)
  sup:∀ p e,(p,e) ∈ W -> Sup net push tk F p e
  ord:∀ i p e,F[i]? = some (p,e) -> Sup net push tk (F.take i) p e
  mono:∀ f ∈ F,∀ w ∈ W,f.2.1 <= w.2.1
  psh:∀ p t,push p = some t -> Has W F p t
  clo:∀ q e,(q,e) ∈ F -> ∀ k r p,net[k]? = some r -> Jn r q p -> C q k p -> NotOut tk k (e.1 + r.2.2) -> Has W F p (e.1 + r.2.2)
theorem FInv.start {W:AL α (EntD α)} {C:α -> Nat -> α -> Prop} (nd:(W.map (·.1)).Nodup) (h:∀ p e,(p,e) ∈ W -> e.2 = none /\ push p = some e.1) (h2:∀ p t,push p = some t -> (p,(t,none)) ∈ W):FInv net push tk C W []:=by
  refine ⟨nd,by simp,fun _ _ => by simp,fun p e he => ?_,fun i p e he => by simp at he,fun f hf => by simp at hf,fun p t e => ⟨_,.inl (h2 p t e),Rat.le_refl⟩,fun q e he => by simp at he⟩
  obtain ⟨t,o⟩:=e
  obtain ⟨rfl,z⟩:=h p _ he
  exact z
theorem FInv.pop {W F:AL α (EntD α)} {p:α} {e:EntD α} {C:α -> Nat -> α -> Prop} (I:FInv net push tk (fun _ _ _ => True) W F) (hp:(p,e) ∈ W) (hm:∀ w ∈ W,e.1 <= w.2.1) (hC:∀ q k x,C q k x -> q ≠ p):FInv net push tk C (adrop W p) (F ++ [(p,e)]):=by
  have hpF:p ∉ F.map (·.1):=I.dis p (List.mem_map.mpr ⟨_,hp,rfl⟩)
  have has:∀ {x t},Has W F x t -> Has (adrop W p) (F ++ [(p,e)]) x t:=fun {x t} ⟨u,h1,h2⟩ => by
    rcases h1 with h1 | h1
    . by_cases hx:x = p
      . subst hx
        have:u = e:=Option.some.inj ((aget_of I.ndW h1).symm.trans (aget_of I.ndW hp))
        subst this
        exact ⟨u,.inr (by simp),h2⟩
      . exact ⟨u,.inl (mem_adrop.mpr ⟨h1,hx⟩),h2⟩
    . exact ⟨u,.inr (List.mem_append_left _ h1),h2⟩
  refine ⟨adrop_nd I.ndW,?_,fun x hx => ?_,fun x u hu => ?_,fun i x u hi => ?_,fun f hf w hw => ?_,fun x t hx => has (I.psh x t hx),fun q u hq k r x h1 h2 h3 h4 => ?_⟩
  . rw [List.map_append,List.nodup_append]
    refine ⟨I.ndF,by simp,fun a ha b hb => ?_⟩
    simp at hb
    subst hb
    rintro rfl
    exact hpF ha
  . rw [List.mem_map] at hx
    obtain ⟨y,hy,rfl⟩:=hx
    have hy:=mem_adrop.mp hy
    rw [List.map_append,List.mem_append]
    rintro (z | z)
    . exact I.dis _ (List.mem_map.mpr ⟨_,hy.1,rfl⟩) z
    . simp at z
      exact hy.2 z
  . exact (I.sup x u (mem_adrop.mp hu).1).mono fun y hy => List.mem_append_left _ hy
  . by_cases hi2:i < F.length
    . rw [List.getElem?_append_left hi2] at hi
      rw [List.take_append_of_le_length (Nat.le_of_lt hi2)]
      exact I.ord i x u hi
    . rw [List.getElem?_append_right (by omega)] at hi
      have:i - F.length = 0:=by
        cases e2:i - F.length with
        | zero => rfl
        | succ n => rw [e2] at hi; simp at hi
      have hi3:i = F.length:=by omega
      subst hi3
      simp at hi
      obtain ⟨rfl,rfl⟩:=hi
      rw [List.take_left]
      exact I.sup _ _ hp
  . have hw:=mem_adrop.mp hw
    rcases List.mem_append.mp hf with hf | hf
    . exact I.mono f hf w hw.1
    . simp at hf
      subst hf
      exact hm w hw.1
  . rcases List.mem_append.mp hq with hq | hq
    . exact has (I.clo q u hq k r x h1 h2 trivial h4)
    . simp at hq
      exact absurd hq.1 (hC _ _ _ h3)
theorem FInv.turn {W F:AL α (EntD α)} {p x:α} {e:EntD α} {k:Nat} {r:RunD α} {C C':α -> Nat -> α -> Prop} (I:FInv net push tk C W F) (hp:(p,e) ∈ F) (hr:net[k]? = some r) (hj:Jn r p x) (hle:∀ w ∈ F,w.2.1 <= e.1) (h0:0 < r.2.2)
    (hC:∀ q j y,C' q j y -> C q j y ∨ (q = p /\ j = k /\ y = x)) {W':AL α (EntD α)}
    (hW:(W' = W /\ (x ∈ F.map (·.1) ∨ ¬ NotOut tk k (e.1 + r.2.2) ∨ ∃ u,(x,u) ∈ W /\ u.1 <= e.1 + r.2.2)) ∨
      (x ∉ F.map (·.1) /\ NotOut tk k (e.1 + r.2.2) /\ (∀ u,(x,u) ∈ W -> e.1 + r.2.2 <= u.1) /\ W' = aput W x (e.1 + r.2.2,some (k,p)))):FInv net push tk C' W' F:=by
  rcases hW with ⟨rfl,h⟩ | ⟨hxF,hno,hu,rfl⟩
  . refine ⟨I.ndW,I.ndF,I.dis,I.sup,I.ord,I.mono,I.psh,fun q u hq j r' y h1 h2 h3 h4 => ?_⟩
    rcases hC q j y h3 with h3 | ⟨rfl,rfl,rfl⟩
    . exact I.clo q u hq j r' y h1 h2 h3 h4
    . rw [hr] at h1
      cases h1
      have:u = e:=Option.some.inj ((aget_of I.ndF hq).symm.trans (aget_of I.ndF hp))
      subst this
      rcases h with h | h | ⟨w,h5,h6⟩
      . rw [List.mem_map] at h
        obtain ⟨⟨a,b⟩,h5,rfl⟩:=h
        refine ⟨b,.inr h5,?_⟩
        have:=hle _ h5
        simp only at this
        grind
      . exact absurd h4 h
      . exact ⟨w,.inl h5,h6⟩
  . have has:∀ {y t},Has W F y t -> Has (aput W x (e.1 + r.2.2,some (k,p))) F y t:=fun {y t} ⟨u,h1,h2⟩ => by
      rcases h1 with h1 | h1
      . by_cases hy:y = x
        . subst hy
          exact ⟨_,.inl aput_mem,Rat.le_trans (hu u h1) h2⟩
        . exact ⟨u,.inl (aput_old hy h1),h2⟩
      . exact ⟨u,.inr h1,h2⟩
    refine ⟨aput_nd I.ndW,I.ndF,fun y hy => ?_,fun y u hy => ?_,I.ord,fun f hf w hw => ?_,fun y t hy => has (I.psh y t hy),fun q u hq j r' y h1 h2 h3 h4 => ?_⟩
    . rcases aput_keys hy with rfl | hy
      . exact hxF
      . exact I.dis y hy
    . rcases mem_aput hy with ⟨rfl,rfl⟩ | ⟨_,hy⟩
      . exact ⟨r,e,hr,hj,hp,rfl,hno⟩
      . exact I.sup y u hy
    . obtain ⟨y,u⟩:=w
      rcases mem_aput hw with ⟨rfl,rfl⟩ | ⟨_,hy⟩
      . have:=hle f hf
        show f.2.1 <= e.1 + r.2.2
        grind
      . exact I.mono f hf _ hy
    . rcases hC q j y h3 with h3 | ⟨rfl,rfl,rfl⟩
      . exact has (I.clo q u hq j r' y h1 h2 h3 h4)
      . rw [hr] at h1
        cases h1
        have:u = e:=Option.some.inj ((aget_of I.ndF hq).symm.trans (aget_of I.ndF hp))
        subst this
        exact ⟨_,.inl aput_mem,Rat.le_refl⟩
structure FOrd (net:List (RunD α)) (push:α -> Option Rat) (tk:Nat -> Option Rat) (F:AL α (EntD α)):Prop where
  nd:(F.map (·.1)).Nodup
  ord:∀ i p e,F[i]? = some (p,e) -> Sup net push tk (F.take i) p e
  psh:∀ p t,push p = some t -> ∃ e,(p,e) ∈ F /\ e.1 <= t
  clo:∀ q e,(q,e) ∈ F -> ∀ k r p,net[k]? = some r -> Jn r q p -> NotOut tk k (e.1 + r.2.2) -> ∃ u,(p,u) ∈ F /\ u.1 <= e.1 + r.2.2
theorem FInv.done {F:AL α (EntD α)} (I:FInv net push tk (fun _ _ _ => True) [] F):FOrd net push tk F:=by
  refine ⟨I.ndF,I.ord,fun p t h => ?_,fun q e hq k r p h1 h2 h3 => ?_⟩
  . obtain ⟨e,h1,h2⟩:=I.psh p t h
    exact ⟨e,h1.resolve_left (by simp),h2⟩
  . obtain ⟨u,h4,h5⟩:=I.clo q e hq k r p h1 h2 trivial h3
    exact ⟨u,h4.resolve_left (by simp),h5⟩
noncomputable def momOf (F:AL α (EntD α)) (p:α):Option Rat:=(aget F p).map (·.1)
theorem FOrd.arr {F:AL α (EntD α)} (O:FOrd net push tk F):∀ (i:Nat) (p:α) (e:EntD α),F[i]? = some (p,e) -> Arr net push tk p e.1:=by
  intro i
  induction i using Nat.strongRecOn with
  | ind i ih =>
    intro p e hi
    have h:=O.ord i p e hi
    obtain ⟨t,o⟩:=e
    cases o with
    | none => exact .push h
    | some kq =>
      obtain ⟨k,q⟩:=kq
      obtain ⟨r,e,h1,h2,h3,h4,h5⟩:=h
      obtain ⟨j,hj⟩:=List.mem_iff_getElem?.mp h3
      rw [List.getElem?_take] at hj
      split at hj
      . rename_i hlt
        subst h4
        exact .run (ih j hlt q e hj) h1 h2 h5
      . cases hj
theorem FOrd.falls {F:AL α (EntD α)} (O:FOrd net push tk F):Falls net push tk (momOf F):=by
  refine ⟨fun p t h => ?_,fun p t h => ?_⟩
  . unfold momOf at h
    rw [Option.map_eq_some_iff] at h
    obtain ⟨e,h1,rfl⟩:=h
    obtain ⟨i,hi⟩:=List.mem_iff_getElem?.mp (aget_mem h1)
    exact O.arr i p e hi
  . induction h with
    | push h =>
      obtain ⟨e,h1,h2⟩:=O.psh _ _ h
      exact ⟨e.1,by unfold momOf; rw [aget_of O.nd h1]; rfl,h2⟩
    | run h1 h2 h3 h4 ih =>
      obtain ⟨u,h5,h6⟩:=ih
      unfold momOf at h5
      rw [Option.map_eq_some_iff] at h5
      obtain ⟨e,h7,rfl⟩:=h5
      rename_i q s p k r
      have hle:e.1 + r.2.2 <= s + r.2.2:=by grind
      obtain ⟨u,h8,h9⟩:=O.clo q e (aget_mem h7) k r p h2 h3 (h4.le hle)
      exact ⟨u.1,by unfold momOf; rw [aget_of O.nd h8]; rfl,Rat.le_trans h9 hle⟩
end
end L2
namespace L2
section
variable {α:Type} [DecidableEq α] {net:List (RunD α)} {push:α -> Option Rat} {tk:Nat -> Option Rat} {F:AL α (EntD α)}
noncomputable def Sat (f:α -> Option Rat) (p:α) (t:Rat):Prop:=∃ u,f p = some u /\ u <= t
noncomputable def Dec (f g:α -> Option Rat):Prop:=∀ p t,f p = some t -> Sat g p t
theorem Dec.refl (f:α -> Option Rat):Dec f f:=fun _ t h => ⟨t,h,Rat.le_refl⟩
theorem Dec.sat {f g:α -> Option Rat} (d:Dec f g) {p:α} {t:Rat} (h:Sat f p t):Sat g p t:=by
  obtain ⟨u,h1,h2⟩:=h
  obtain ⟨w,h3,h4⟩:=d p u h1
  exact ⟨w,h3,Rat.le_trans h4 h2⟩
theorem Dec.trans {f g h:α -> Option Rat} (a:Dec f g) (b:Dec g h):Dec f h:=fun p t e => b.sat (a p t e)
noncomputable def Snd (net:List (RunD α)) (push:α -> Option Rat) (tk:Nat -> Option Rat) (f:α -> Option Rat):Prop:=∀ p t,f p = some t -> Arr net push tk p t
noncomputable def Rlx (tk:Nat -> Option Rat) (k:Nat) (x:Rat) (a b:α) (f g:α -> Option Rat):Prop :=
  (f a = none /\ g = f) ∨ (∃ s,f a = some s /\ ¬ NotOut tk k (s + x) /\ g = f) ∨
    ∃ s,f a = some s /\ NotOut tk k (s + x) /\ ((f b = none /\ g = fun p => if p = b then some (s + x) else f p) ∨ ∃ t,f b = some t /\ g = fun p => if p = b then some (if t < s + x then t else s + x) else f p)
theorem Rlx.dec {k:Nat} {x:Rat} {a b:α} {f g:α -> Option Rat} (h:Rlx tk k x a b f g):Dec f g:=by
  rcases h with ⟨_,rfl⟩ | ⟨_,_,_,rfl⟩ | ⟨s,h1,h2,⟨h3,rfl⟩ | ⟨t,h3,rfl⟩⟩
  . exact Dec.refl _
  . exact Dec.refl _
  . intro p t h
    have:p ≠ b:=fun z => by subst z; rw [h3] at h; cases h
    exact ⟨t,by simp only [if_neg this]; exact h,Rat.le_refl⟩
  . intro p u h
    by_cases hp:p = b
    . subst hp
      rw [h3] at h
      cases h
      refine ⟨_,by simp only [if_pos rfl]; rfl,?_⟩
      split <;> grind
    . exact ⟨u,by simp only [if_neg hp]; exact h,Rat.le_refl⟩
theorem Rlx.snd {k:Nat} {a b:α} {r:RunD α} {f g:α -> Option Rat} (h:Rlx tk k r.2.2 a b f g) (hr:net[k]? = some r) (hj:Jn r a b) (hs:Snd net push tk f):Snd net push tk g:=by
  rcases h with ⟨_,rfl⟩ | ⟨_,_,_,rfl⟩ | ⟨s,h1,h2,⟨h3,rfl⟩ | ⟨t,h3,rfl⟩⟩
  . exact hs
  . exact hs
  . intro p u h
    by_cases hp:p = b
    . subst hp
      simp only [if_true] at h
      cases h
      exact .run (hs _ _ h1) hr hj h2
    . simp only [if_neg hp] at h
      exact hs p u h
  . intro p u h
    by_cases hp:p = b
    . subst hp
      simp only [if_true] at h
      cases h
      split
      . exact hs _ _ h3
      . exact .run (hs _ _ h1) hr hj h2
    . simp only [if_neg hp] at h
      exact hs p u h
theorem Rlx.sat {k:Nat} {x:Rat} {a b:α} {f g:α -> Option Rat} (h:Rlx tk k x a b f g) {s:Rat} (hs:Sat f a s) (hn:NotOut tk k (s + x)):Sat g b (s + x):=by
  obtain ⟨u,h1,h2⟩:=hs
  have hle:u + x <= s + x:=by grind
  rcases h with ⟨e,_⟩ | ⟨s',e,h3,_⟩ | ⟨s',e,h3,⟨h4,rfl⟩ | ⟨t,h4,rfl⟩⟩
  . rw [h1] at e; cases e
  . rw [h1] at e; cases e
    exact absurd (hn.le hle) h3
  . rw [h1] at e; cases e
    exact ⟨u + x,by simp,hle⟩
  . rw [h1] at e; cases e
    refine ⟨_,by simp only [if_pos rfl]; rfl,?_⟩
    split <;> grind
structure Rnd (net:List (RunD α)) (push:α -> Option Rat) (tk:Nat -> Option Rat) (F:AL α (EntD α)) (i n:Nat) (f:α -> Option Rat):Prop where
  snd:Snd net push tk f
  psh:∀ p t,push p = some t -> Sat f p t
  past:∀ (j:Nat) p e,F[j]? = some (p,e) -> j < i -> Sat f p e.1
  now:∀ p e k q,F[i]? = some (p,e) -> e.2 = some (k,q) -> k < n -> Sat f p e.1
theorem Rnd.start:Rnd net push tk F 0 0 push:=⟨fun _ _ h => .push h,fun _ t h => ⟨t,h,Rat.le_refl⟩,fun _ _ _ _ h => absurd h (Nat.not_lt_zero _),fun _ _ _ _ _ _ h => absurd h (Nat.not_lt_zero _)⟩
theorem Rnd.run {i n:Nat} {f g g':α -> Option Rat} {r:RunD α} (O:FOrd net push tk F) (R:Rnd net push tk F i n f) (hr:net[n]? = some r) (h1:Rlx tk n r.2.2 r.1 r.2.1 f g) (h2:Rlx tk n r.2.2 r.2.1 r.1 g g'):Rnd net push tk F i (n + 1) g':=by
  have d:Dec f g':=h1.dec.trans h2.dec
  refine ⟨h2.snd hr (.inr ⟨rfl,rfl⟩) (h1.snd hr (.inl ⟨rfl,rfl⟩) R.snd),fun p t h => d.sat (R.psh p t h),fun j p e h l => d.sat (R.past j p e h l),fun p e k q hi he hk => ?_⟩
  by_cases hkn:k < n
  . exact d.sat (R.now p e k q hi he hkn)
  . have:k = n:=by omega
    subst this
    have s:=O.ord i p e hi
    obtain ⟨t,o⟩:=e
    simp only at he
    subst he
    obtain ⟨r',e',a1,a2,a3,a4,a5⟩:=s
    rw [hr] at a1
    cases a1
    obtain ⟨j,hj⟩:=List.mem_iff_getElem?.mp a3
    rw [List.getElem?_take] at hj
    split at hj
    . rename_i hlt
      have sq:=R.past j q e' hj hlt
      subst a4
      rcases a2 with ⟨b1,b2⟩ | ⟨b1,b2⟩
      . subst b1 b2
        exact h2.dec.sat (h1.sat sq a5)
      . subst b1 b2
        exact h2.sat (h1.dec.sat sq) a5
    . cases hj
theorem Rnd.next {i:Nat} {f:α -> Option Rat} (O:FOrd net push tk F) (R:Rnd net push tk F i net.length f):Rnd net push tk F (i + 1) 0 f:=by
  refine ⟨R.snd,R.psh,fun j p e h l => ?_,fun _ _ _ _ _ _ h => absurd h (Nat.not_lt_zero _)⟩
  by_cases hj:j < i
  . exact R.past j p e h hj
  . have:j = i:=by omega
    subst this
    have s:=O.ord j p e h
    obtain ⟨t,o⟩:=e
    cases o with
    | none => exact R.psh p t s
    | some kq =>
      obtain ⟨k,q⟩:=kq
      obtain ⟨r',e',a1,_⟩:=id s
      exact R.now p _ k q h rfl (by
        have:=(List.getElem?_eq_some_iff.mp a1).1
        exact this)
theorem Rnd.done {i:Nat} {f:α -> Option Rat} (O:FOrd net push tk F) (R:Rnd net push tk F i 0 f) (hi:F.length <= i):f = momOf F:=by
  refine Falls.uniq (net:=net) (push:=push) (tk:=tk) ⟨R.snd,fun p t h => ?_⟩ O.falls
  obtain ⟨u,h1,h2⟩:=O.falls.le p t h
  unfold momOf at h1
  rw [Option.map_eq_some_iff] at h1
  obtain ⟨e,h3,rfl⟩:=h1
  obtain ⟨j,hj⟩:=List.mem_iff_getElem?.mp (aget_mem h3)
  have hlt:j < F.length:=(List.getElem?_eq_some_iff.mp hj).1
  obtain ⟨w,h4,h5⟩:=R.past j p e hj (by omega)
  exact ⟨w,h4,Rat.le_trans h5 h2⟩
end
end L2
namespace L2
section
variable {κ:Type} [DecidableEq κ]
noncomputable def lstep (m:AL κ Rat) (x:κ×Rat):AL κ Rat:=match aget m x.1 with
  | none => aput m x.1 x.2
  | some r => if x.2 < r then aput m x.1 x.2 else m
noncomputable def lst (l:List (κ×Rat)):AL κ Rat:=l.foldl lstep []
theorem lstep_mem {m:AL κ Rat} {x:κ×Rat} {k:κ} {q:Rat} (h:(k,q) ∈ lstep m x):(k,q) ∈ m ∨ (k,q) = x:=by
  unfold lstep at h
  split at h
  . rcases mem_aput h with ⟨rfl,rfl⟩ | ⟨_,h⟩
    . exact .inr rfl
    . exact .inl h
  . split at h
    . rcases mem_aput h with ⟨rfl,rfl⟩ | ⟨_,h⟩
      . exact .inr rfl
      . exact .inl h
    . exact .inl h
theorem lst_rev (P:AL κ Rat -> Prop) (l:List (κ×Rat)) (h0:P []) (hs:∀ m x,x ∈ l -> P m -> P (lstep m x)):P (lst l):=by
  unfold lst
  have:∀ (l':List (κ×Rat)) (m:AL κ Rat),(∀ x ∈ l',x ∈ l) -> P m -> P (l'.foldl lstep m):=by
    intro l'
    induction l' with
    | nil => intro m _ h; exact h
    | cons x r ih => intro m hl h; exact ih _ (fun y hy => hl y (List.mem_cons_of_mem _ hy)) (hs m x (hl x List.mem_cons_self) h)
  exact this l [] (fun x h => h) h0
theorem lst_mem {l:List (κ×Rat)} {x:κ×Rat} (h:x ∈ lst l):x ∈ l:=by
  refine lst_rev (fun m => ∀ y ∈ m,y ∈ l) l (by simp) (fun m x hx ih y hy => ?_) x h
  obtain ⟨k,q⟩:=y
  rcases lstep_mem hy with h | h
  . exact ih _ h
  . rw [h]; exact hx
end
end L2
namespace L2
end L2
namespace L2
open PySem PySem.Spec PyProof.Rows
section
variable {X:Cx} {a b:Expr} {ta tb td ty tv:TE} {pos:Pos} {rest:List Expr} {σ:St} {H H':Hp} {Q:VK} {D:Ends} {K:PySem.W.Frag} {w:World} {v x:V}
noncomputable def tOrT (K:PySem.W.Frag) (ta tb:TE):TE:=fun σ H Q => ta σ H fun x H1 => ∃ k,TruV K x H1 k /\ if k = true then Q x H1 else tb σ H1 Q
theorem r_orT (k:ta σ H fun x H1 => ∃ k,TruV K x H1 k /\ if k = true then Q x H1 else tb σ H1 Q):tOrT K ta tb σ H Q:=k
noncomputable def tTru (K:PySem.W.Frag) (ta:TE):TT:=fun σ H R => ta σ H fun x H' => ∃ k,TruV K x H' k /\ R k H'
theorem pt_tru (ha:PE X a ta) (he:∀ whole,isTrue a X.env whole = (do let v ← whole; standAt a.pos; holding [v] (truthy v)):=by intro _; rfl):PT X a (tTru X.K ta):=pt_truth ha he
theorem r_tru {R:Bool -> Hp -> Prop} (k:ta σ H fun x H' => ∃ k,TruV K x H' k /\ R k H'):tTru K ta σ H R:=k
noncomputable def dG (x y:V) (H:Hp) (Q:VK):Prop:=∃ a v,x = .ref a /\ DGet H a y (some v) /\ Q v H
theorem r_dget (k:td σ H fun x H1 => ty σ H1 fun y H2 => dG x y H2 Q):tDGet td ty σ H Q:=k
noncomputable def dI (y x:V) (H:Hp) (Q:VK):Prop:=∃ a o,x = .ref a /\ DGet H a y o /\ Q (.bl o.isSome) H
noncomputable def dN (y x:V) (H:Hp) (Q:VK):Prop:=∃ a o,x = .ref a /\ DGet H a y o /\ Q (.bl (!o.isSome)) H
theorem r_din (k:ty σ H fun y H1 => td σ H1 fun x H2 => dI y x H2 Q):tDIn ty td σ H Q:=k
theorem r_dnin (k:ty σ H fun y H1 => td σ H1 fun x H2 => dN y x H2 Q):tDNotIn ty td σ H Q:=k
noncomputable def dP (D:Ends) (σ:St) (v x y:V) (H:Hp):Prop:=∃ a H4,x = .ref a /\ DPut H a y v H4 /\ D.nx σ H4
theorem r_dput (k:tv σ H fun v H1 => td σ H1 fun x H2 => ty σ H2 fun y H3 => dP D σ v x y H3):sDPut td ty tv D σ H:=k
noncomputable def dG1 (ty:TE) (σ:St) (Q:VK) (x:V) (H1:Hp):Prop:=∃ a,x = .ref a /\ IsD H1 a /\ ty σ H1 fun y H2 => ∃ o,DGet H2 a y o /\ Q (o.getD .non) H2
theorem r_dget1 (k:td σ H (dG1 ty σ Q)):tDGet1 td ty σ H Q:=k
noncomputable def dG2 (ty tx:TE) (σ:St) (Q:VK) (x:V) (H1:Hp):Prop:=∃ a,x = .ref a /\ IsD H1 a /\ ty σ H1 fun y H2 => tx σ H2 fun z H3 => ∃ o,DGet H3 a y o /\ Q (o.getD z) H3
theorem r_dget2 {tx:TE} (k:td σ H (dG2 ty tx σ Q)):tDGet2 td ty tx σ H Q:=k
noncomputable def dpK (ty:TE) (σ:St) (Q:VK) (x:V) (H1:Hp):Prop:=∃ a,x = .ref a /\ IsD H1 a /\ ty σ H1 fun y H2 => ∃ kvs k v,H2 a = some (.dK kvs) /\ y = kV k /\ valV kvs k = some v /\ Q v (upd H2 a (.dK (dropK kvs k)))
theorem r_dpop1 (k:td σ H (dpK ty σ Q)):tDPop1 td ty σ H Q:=k
theorem IsD.k {p:Addr} {kvs:List (Key×V)} (h:Rd H p (.dK kvs)):IsD H p:=.inl ⟨kvs,h⟩
theorem r_forE {a:Addr} {xs:List V} {g:TG} {tb:TS} (Pv:Nat -> St -> Hp -> Prop) (h0:Pv 0 σ H) (hl:∀ i σ H,i <= xs.length -> Pv i σ H -> SqL K H a xs)
    (hs:∀ i x T σ H,xs[i]? = some x -> H T = none -> Pv i σ H -> g (.ref T) σ (upd H T (.tup [.int i,x])) fun σ2 H2 => tb ⟨Pv (i + 1),D.rt,D.nx,Pv (i + 1)⟩ σ2 H2) (hd:∀ σ H,Pv xs.length σ H -> D.nx σ H):forK g tb D σ (Ite K a) H:=by
  refine ⟨fun i m σ H => m = xs.length - i /\ i <= xs.length /\ Pv i σ H,⟨_,rfl,Nat.zero_le _,h0⟩,?_⟩
  rintro i m σ H ⟨rfl,hi,p⟩
  have q:=hl i σ H hi p
  by_cases hlt:i < xs.length
  . refine .inr ⟨⟨xs,xs[i],q,by simp [hlt]⟩,Pv (i + 1),fun σ' H' q => ⟨xs.length - (i + 1),by omega,rfl,hlt,q⟩,fun x H' y => ?_⟩
    obtain ⟨T,x',rfl,hT,rfl,e⟩:=y
    exact hs i x' T σ H (e xs q) hT p
  . have:i = xs.length:=by omega
    subst this
    exact .inl ⟨⟨xs,q,Nat.le_refl _⟩,hd σ H p⟩
theorem r_iEnum {tl:TA} {R:It -> Hp -> Prop} (k:tl σ H fun vs H1 => ∃ a,vs = [.ref a] /\ (∃ xs,SqL K H1 a xs) /\ R (Ite K a) H1):iEnum K tl σ H R:=k
theorem r_gtup2 {p:Addr} {x y:V} {t:TGs} {R:St -> Hp -> Prop} (h:H p = some (.tup [x,y])) (k:t [x,y] σ H R):gTup K 2 t (.ref p) σ H R:=⟨p,_,rfl,SqT.of h,rfl,k⟩
theorem r_gtup3 {p:Addr} {x y z:V} {t:TGs} {R:St -> Hp -> Prop} (h:H p = some (.tup [x,y,z])) (k:t [x,y,z] σ H R):gTup K 3 t (.ref p) σ H R:=⟨p,_,rfl,SqT.of h,rfl,k⟩
theorem r_gtup4 {p:Addr} {x y z u:V} {t:TGs} {R:St -> Hp -> Prop} (h:H p = some (.tup [x,y,z,u])) (k:t [x,y,z,u] σ H R):gTup K 4 t (.ref p) σ H R:=⟨p,_,rfl,SqT.of h,rfl,k⟩
theorem r_gnil {R:St -> Hp -> Prop} (k:R σ H):gNil [] σ H R:=⟨rfl,k⟩
theorem r_gcons {t:TG} {u:TGs} {r:List V} {R:St -> Hp -> Prop} (k:t v σ H fun σ' H' => u r σ' H' R):gCons t u (v :: r) σ H R:=⟨v,r,rfl,k⟩
end
noncomputable def TK (H H':Hp):Prop:=∀ p xs,H p = some (.tup xs) -> H' p = some (.tup xs)
theorem TK.refl (H:Hp):TK H H:=fun _ _ h => h
theorem TK.trans {H H1 H2:Hp} (a:TK H H1) (b:TK H1 H2):TK H H2:=fun p xs h => b p xs (a p xs h)
theorem Same.tk {H H':Hp} (s:Same H H'):TK H H':=fun p xs h => s _ _ h
theorem TK.new {H:Hp} {q:Addr} {o:HO} (h:H q = none):TK H (upd H q o):=(Same.new h).tk
theorem TK.lst {H:Hp} {q:Addr} {o:HO} {ys:List V} (h:H q = some (.lst ys)):TK H (upd H q o):=fun p xs e => by rw [upd_ne (ne_of e h (by intro z; cases z))]; exact e
theorem TK.dic {H:Hp} {q:Addr} {o:HO} {ys:List (Key×V)} (h:H q = some (.dK ys)):TK H (upd H q o):=fun p xs e => by rw [upd_ne (ne_of e h (by intro z; cases z))]; exact e
theorem TK.frz {H:Hp} {q:Addr} {o:HO} {ob:Obj} {u:HO} (h:H q = some (.frz ob u)):TK H (upd H q o):=fun p xs e => by rw [upd_ne (ne_of e h (by intro z; cases z))]; exact e
theorem TK.melt {H:Hp} {a:Addr}:TK H (melt a H):=fun p xs e => melt_old (fun _ _ z => nomatch z) e
theorem St3.tk {H H':Hp} {p:Addr} {n:Int} (s:St3 H p n) (k:Kp p H H'):TK H H':=fun q xs e => k _ _ (s.ne e) e
noncomputable def FrQ (H:Hp) (v:V) (q:Rat):Prop:=∃ p,v = .ref p /\ H p = some (.tup [.int q.num,.int q.den])
theorem FrQ.tk {H H':Hp} {v:V} {q:Rat} (h:FrQ H v q) (t:TK H H'):FrQ H' v q:=let ⟨p,e,h⟩:=h; ⟨p,e,t _ _ h⟩
noncomputable def KvQ (H:Hp) (v:V) (x:Key×Rat):Prop:=∃ p u,v = .ref p /\ H p = some (.tup [kV x.1,u]) /\ FrQ H u x.2
theorem KvQ.tk {H H':Hp} {v:V} {x:Key×Rat} (h:KvQ H v x) (t:TK H H'):KvQ H' v x:=let ⟨p,u,e,h,f⟩:=h; ⟨p,u,e,t _ _ h,f.tk t⟩
noncomputable def RunQ (H:Hp) (v:V) (r:Key×Key×Rat):Prop:=∃ p u,v = .ref p /\ H p = some (.tup [kV r.1,kV r.2.1,u]) /\ FrQ H u r.2.2
theorem RunQ.tk {H H':Hp} {v:V} {r:Key×Key×Rat} (h:RunQ H v r) (t:TK H H'):RunQ H' v r:=let ⟨p,u,e,h,f⟩:=h; ⟨p,u,e,t _ _ h,f.tk t⟩
noncomputable def EntQ (H:Hp) (v:V) (e:Rat×Option (Nat×Key)):Prop:=∃ p u,v = .ref p /\ H p = some (.tup [u,(match e.2 with | none => .non | some kq => .int kq.1),(match e.2 with | none => .non | some kq => kV kq.2)]) /\ FrQ H u e.1
theorem EntQ.tk {H H':Hp} {v:V} {e:Rat×Option (Nat×Key)} (h:EntQ H v e) (t:TK H H'):EntQ H' v e:=let ⟨p,u,a,h,f⟩:=h; ⟨p,u,a,t _ _ h,f.tk t⟩
noncomputable def NpQ (H:Hp) (v:V) (x:Nat×Key):Prop:=∃ p,v = .ref p /\ H p = some (.tup [.int x.1,kV x.2])
theorem NpQ.tk {H H':Hp} {v:V} {x:Nat×Key} (h:NpQ H v x) (t:TK H H'):NpQ H' v x:=let ⟨p,e,h⟩:=h; ⟨p,e,t _ _ h⟩
section
variable {α β:Type} {F G:α -> β -> Prop}
theorem Pd.imp:∀ {l:List α} {m:List β},Paired F l m -> (∀ a b,F a b -> G a b) -> Paired G l m
  | _,_,.nil,_ => .nil
  | _,_,.cons r t,f => .cons (f _ _ r) (Pd.imp t f)
theorem Pd.snoc:∀ {l:List α} {m:List β} {a:α} {b:β},Paired F l m -> F a b -> Paired F (l ++ [a]) (m ++ [b])
  | _,_,_,_,.nil,r => .cons r .nil
  | _,_,_,_,.cons q t,r => .cons q (Pd.snoc t r)
theorem Pd.get:∀ {l:List α} {m:List β} {i:Nat} {b:β},Paired F l m -> m[i]? = some b -> ∃ a,l[i]? = some a /\ F a b
  | _,_,_,_,.nil,e => by simp at e
  | _,_,0,_,.cons r _,e => by simp at e; subst e; exact ⟨_,rfl,r⟩
  | _,_,i + 1,b,.cons _ t,e => by
    obtain ⟨y,h1,h2⟩:=Pd.get (i:=i) (b:=b) t (by simpa using e)
    exact ⟨y,by simpa using h1,h2⟩
end
noncomputable def LQ {β:Type} (R:Hp -> V -> β -> Prop) (H:Hp) (l:Addr) (ds:List β):Prop:=∃ vs,H l = some (.lst vs) /\ Paired (R H) vs ds
noncomputable def KQ {β:Type} (R:Hp -> V -> β -> Prop) (H:Hp) (kvs:List (Key×V)) (m:List (Key×β)):Prop:=Paired (fun kv ab => kv.1 = ab.1 /\ R H kv.2 ab.2) kvs m
noncomputable def DQ {β:Type} (R:Hp -> V -> β -> Prop) (H:Hp) (d:Addr) (m:List (Key×β)):Prop:=∃ kvs,H d = some (.dK kvs) /\ KQ R H kvs m
section
variable {β:Type} {R:Hp -> V -> β -> Prop} {H H':Hp} {l d:Addr} {ds:List β} {m:List (Key×β)} {kvs:List (Key×V)}
theorem LQ.same (h:LQ R H l ds) (hR:∀ v b,R H v b -> R H' v b) (s:Same H H'):LQ R H' l ds:=let ⟨vs,a,b⟩:=h; ⟨vs,s _ _ a,Pd.imp b hR⟩
theorem LQ.at (h:LQ R H l ds) (hR:∀ v b,R H v b -> R H' v b) (s:H' l = H l):LQ R H' l ds:=let ⟨vs,a,b⟩:=h; ⟨vs,s.trans a,Pd.imp b hR⟩
theorem KQ.imp {R':Hp -> V -> β -> Prop} (h:KQ R H kvs m) (hR:∀ v b,R H v b -> R' H' v b):KQ R' H' kvs m:=Pd.imp h fun _ _ q => ⟨q.1,hR _ _ q.2⟩
theorem KQ.len (h:KQ R H kvs m):kvs.length = m.length:=Paired.length h
theorem KQ.any {k:Key}:∀ {kvs:List (Key×V)} {m:List (Key×β)},KQ R H kvs m -> (kvs.any fun kv => decide (kv.1 = k)) = m.any fun kv => decide (kv.1 = k)
  | _,_,.nil => rfl
  | _,_,.cons r t => by rw [List.any_cons,List.any_cons,r.1,KQ.any t]
end
theorem i_sN {β:Type} {A B:Prop} (k:B):if (none:Option β).isSome = true then A else B:=k
theorem i_sS {β:Type} {b:β} {A B:Prop} (k:A):if (some b).isSome = true then A else B:=k
theorem r_nxD {D:Ends} {σ:St} {H:Hp} (k:D.nx σ H):D.nx σ H:=k
theorem r_rtD {D:Ends} {v:V} {H:Hp} (k:D.rt v H):D.rt v H:=k
theorem r_bkD {D:Ends} {σ:St} {H:Hp} (k:D.bk σ H):D.bk σ H:=k
theorem r_ctD {D:Ends} {σ:St} {H:Hp} (k:D.ct σ H):D.ct σ H:=k
theorem r_dmN {a:Addr} {D:Ends} {σ:St} {H:Hp} (k:D.nx σ (melt a H)):(Dm a D).nx σ H:=k
theorem r_dmR {a:Addr} {D:Ends} {v:V} {H:Hp} (k:D.rt v (melt a H)):(Dm a D).rt v H:=k
theorem Room.u1 {k:Nat} {A:Around} (r:Room k A):A.units + 1 < cLine:=by have:=r.units; omega
section
variable {X:Cx} {σ:St} {H H':Hp} {Q:VK} {K:PySem.W.Frag} {v x y:V} {w:World}
theorem Same.app {b:Addr} {o:HO} (s:Same H H') (h:H b = some o):H' b = some o:=s _ _ h
theorem Kp.app {p b:Addr} {o:HO} (s:Kp p H H') (n:b ≠ p) (h:H b = some o):H' b = some o:=s _ _ n h
theorem upd_not {q b:Addr} {o u:HO} (n:b ≠ q) (h:H b = some u):upd H q o b = some u:=by rw [upd_ne n]; exact h
noncomputable def rIsN:R2:=fun x y H Q => y = .non /\ Q (.bl (decide (x = .non))) H
noncomputable def rNotN:R2:=fun x y H Q => y = .non /\ Q (.bl (!decide (x = .non))) H
theorem op_isN2:OpR X (compareOp .Is) rIsN:=op_isN
theorem op_notN2:OpR X (compareOp .IsNot) rNotN:=op_notN
theorem r_isNr {p:Addr} (k:Q (.bl false) H):rIsN (.ref p) .non H Q:=⟨rfl,k⟩
theorem r_isNn (k:Q (.bl true) H):rIsN .non .non H Q:=⟨rfl,k⟩
theorem r_isNs {s:Str} (k:Q (.bl false) H):rIsN (.str s) .non H Q:=⟨rfl,k⟩
theorem r_isNi {i:Int} (k:Q (.bl false) H):rIsN (.int i) .non H Q:=⟨rfl,k⟩
theorem r_isNk {c:Key} (k:Q (.bl false) H):rIsN (kV c) .non H Q:=⟨rfl,by cases c <;> exact k⟩
theorem r_noNr {p:Addr} (k:Q (.bl true) H):rNotN (.ref p) .non H Q:=⟨rfl,k⟩
theorem r_noNn (k:Q (.bl false) H):rNotN .non .non H Q:=⟨rfl,k⟩
theorem r_noNs {s:Str} (k:Q (.bl true) H):rNotN (.str s) .non H Q:=⟨rfl,k⟩
noncomputable def bmK (K:PySem.W.Frag) (T:String) (r:V -> List V -> Hp -> VK -> Prop) (t:TA) (σ:St) (Q:VK):VK:=fun x H1 => tyV K T x H1 /\ t σ H1 fun xs H2 => r x xs H2 Q
theorem r_bm {T:String} {r:V -> List V -> Hp -> VK -> Prop} {to:TE} {t:TA} (k:to σ H (bmK K T r t σ Q)):tBM K T r to t σ H Q:=k
noncomputable def bm0K (K:PySem.W.Frag) (T:String) (r:V -> List V -> Hp -> VK -> Prop) (Q:VK):VK:=fun x H1 => tyV K T x H1 /\ r x [] H1 Q
theorem r_bm0 {T:String} {r:V -> List V -> Hp -> VK -> Prop} {to:TE} (k:to σ H (bm0K K T r Q)):tBM0 K T r to σ H Q:=k
theorem r_bmL {r:V -> List V -> Hp -> VK -> Prop} {t:TA} {l:Addr} {xs:List V} (h:H l = some (.lst xs)) (k:t σ H fun vs H2 => r (.ref l) vs H2 Q):bmK K "list" r t σ Q (.ref l) H:=⟨.inl ⟨rfl,xs,SqL.of h⟩,k⟩
theorem r_bmD {r:V -> List V -> Hp -> VK -> Prop} {t:TA} {l:Addr} {xs:List (Key×V)} (h:H l = some (.dK xs)) (k:t σ H fun vs H2 => r (.ref l) vs H2 Q):bmK K "dict" r t σ Q (.ref l) H:=⟨.inr (.inr (.inl ⟨rfl,.inl ⟨xs,h⟩⟩)),k⟩
theorem r_bm0D {r:V -> List V -> Hp -> VK -> Prop} {l:Addr} {xs:List (Key×V)} (h:H l = some (.dK xs)) (k:r (.ref l) [] H Q):bm0K K "dict" r Q (.ref l) H:=⟨.inr (.inr (.inl ⟨rfl,.inl ⟨xs,h⟩⟩)),k⟩
theorem r_bm0L {r:V -> List V -> Hp -> VK -> Prop} {l:Addr} {xs:List V} (h:H l = some (.lst xs)) (k:r (.ref l) [] H Q):bm0K K "list" r Q (.ref l) H:=⟨.inl ⟨rfl,xs,SqL.of h⟩,k⟩
theorem r_bmS {r:V -> List V -> Hp -> VK -> Prop} {t:TA} {s:Str} (k:t σ H fun vs H2 => r (.str s) vs H2 Q):bmK K "str" r t σ Q (.str s) H:=⟨rfl,k⟩
theorem r_app {l:Addr} {xs:List V} (h:H l = some (.lst xs)) (hl:xs.length <= 1000) (k:Q .non (upd H l (.lst (xs ++ [y])))):rAppend (.ref l) [y] H Q:=⟨l,xs,y,rfl,rfl,h,small1000 hl,k⟩
theorem NoFrz.dK {a:Addr} {kvs:List (Key×V)} (h:H a = some (.dK kvs)):NoFrz H a:=fun o u e => by rw [h] at e; cases e
theorem NoFrz.none {a:Addr} (h:H a = none):NoFrz H a:=fun o u e => by rw [h] at e; cases e
end
end L2
namespace L2
open PySem PySem.Spec PyProof.Rows
theorem valV_snoc2 {kvs:List (Key×V)} {p q:Key} {v:V} (h:valV kvs p = none):valV (kvs ++ [(p,v)]) q = if q = p then some v else valV kvs q:=by
  by_cases e:q = p
  . subst e
    rw [if_pos rfl]
    induction kvs with
    | nil => exact valV_pos rfl
    | cons kv r ih =>
      by_cases z:kv.1 = q
      . rw [valV_pos z] at h; cases h
      . rw [valV_neg z] at h
        rw [List.cons_append,valV_neg z]
        exact ih h
  . rw [if_neg e]
    clear h
    induction kvs with
    | nil => exact valV_neg (fun z => e z.symm)
    | cons kv r ih =>
      by_cases z:kv.1 = q
      . rw [List.cons_append,valV_pos z,valV_pos z]
      . rw [List.cons_append,valV_neg z,valV_neg z]
        exact ih
structure BI (H H1:Hp) (d:Addr) (f:Key -> List (Nat×Key)) (n:Nat):Prop where
  same:Same H H1
  dn:H d = none
  ex:∃ kvs,H1 d = some (.dK kvs) /\ kvs.length <= n /\ (∀ p,valV kvs p = none -> f p = []) /\ (∀ p v,valV kvs p = some v -> ∃ l,v = .ref l /\ H l = none /\ LQ NpQ H1 l (f p)) /\ ∀ p q l,valV kvs p = some (.ref l) -> valV kvs q = some (.ref l) -> p = q
noncomputable def bs1 (f:Key -> List (Nat×Key)) (p:Key) (x:Nat×Key):Key -> List (Nat×Key):=fun q => if q = p then f q ++ [x] else f q
theorem BI.start {H:Hp} {d:Addr} (h:H d = none):BI H (upd H d (.dK [])) d (fun _ => []) 0 :=
  ⟨Same.new h,h,[],upd_same,Nat.le_refl _,fun _ _ => rfl,fun p v e => (by cases e),fun p q l e => (by cases e)⟩
theorem NpQ.imp {H H':Hp} (t:TK H H'):∀ v b,NpQ H v b -> NpQ H' v b:=fun v b h => h.tk t
theorem BI.alloc {H H1:Hp} {d q:Addr} {o:HO} {f:Key -> List (Nat×Key)} {n:Nat} (B:BI H H1 d f n) (h:H1 q = none):BI H (upd H1 q o) d f n:=by
  obtain ⟨kvs,a,b,c,e,g⟩:=B.ex
  refine ⟨B.same.trans (Same.new h),B.dn,kvs,upd_old h a,b,c,fun p v z => ?_,g⟩
  obtain ⟨l,rfl,hl,q⟩:=e p v z
  exact ⟨l,rfl,hl,q.same (NpQ.imp (TK.new h)) (Same.new h)⟩
theorem BI.old {H H1:Hp} {d l t:Addr} {p:Key} {x:Nat×Key} {f:Key -> List (Nat×Key)} {n:Nat} {kvs:List (Key×V)} {xs:List V} (B:BI H H1 d f n) (hd:H1 d = some (.dK kvs)) (hv:valV kvs p = some (.ref l)) (hl:H1 l = some (.lst xs)) (ht:H1 t = some (.tup [.int x.1,kV x.2])) :
    BI H (upd H1 l (.lst (xs ++ [.ref t]))) d (bs1 f p x) n:=by
  obtain ⟨kvs',a,b,c,e,g⟩:=B.ex
  rw [hd] at a
  cases a
  have tk:TK H1 (upd H1 l (.lst (xs ++ [.ref t]))):=TK.lst hl
  obtain ⟨l',e1,hln,ys,hy,py⟩:=e p _ hv
  cases e1
  rw [hl] at hy
  cases hy
  refine ⟨fun b o h => ?_,B.dn,kvs,?_,b,fun q z => ?_,fun q v z => ?_,g⟩
  . rw [upd_ne (ne_of_none h hln)]
    exact B.same _ _ h
  . rw [upd_ne (ne_of hd hl (by intro z; cases z))]
    exact hd
  . have hq:q ≠ p:=fun w => by subst w; rw [hv] at z; cases z
    show (if q = p then _ else _) = _
    rw [if_neg hq]
    exact c q z
  . obtain ⟨m,rfl,hm,zs,hz,pz⟩:=e q v z
    by_cases hq:q = p
    . subst hq
      rw [hv] at z
      cases z
      refine ⟨l,rfl,hln,xs ++ [.ref t],upd_same,?_⟩
      show Paired _ _ (if q = q then _ else _)
      rw [if_pos rfl]
      exact Pd.snoc (Pd.imp py (NpQ.imp tk)) ⟨t,rfl,tk _ _ ht⟩
    . refine ⟨m,rfl,hm,zs,?_,?_⟩
      . have:m ≠ l:=fun w => by subst w; exact hq (g _ _ _ z hv)
        rw [upd_ne this]
        exact hz
      . show Paired _ _ (if q = p then _ else _)
        rw [if_neg hq]
        exact Pd.imp pz (NpQ.imp tk)
theorem BI.key {H H1:Hp} {d l:Addr} {p:Key} {f:Key -> List (Nat×Key)} {n:Nat} {kvs:List (Key×V)} (B:BI H H1 d f n) (hd:H1 d = some (.dK kvs)) (hv:valV kvs p = none) (hl:H1 l = some (.lst [])) (hn:H l = none) (hf:∀ q,valV kvs q ≠ some (.ref l)) :
    BI H (upd H1 d (.dK (kvs ++ [(p,.ref l)]))) d f (n + 1):=by
  obtain ⟨kvs',a,b,c,e,g⟩:=B.ex
  rw [hd] at a
  cases a
  have tk:TK H1 (upd H1 d (.dK (kvs ++ [(p,.ref l)]))):=TK.dic hd
  refine ⟨fun b o h => ?_,B.dn,kvs ++ [(p,.ref l)],upd_same,by simp; exact b,fun q z => ?_,fun q v z => ?_,fun q r m z1 z2 => ?_⟩
  . rw [upd_ne (ne_of_none h B.dn)]
    exact B.same _ _ h
  . rw [valV_snoc2 hv] at z
    by_cases hq:q = p
    . rw [if_pos hq] at z; cases z
    . rw [if_neg hq] at z; exact c q z
  . rw [valV_snoc2 hv] at z
    by_cases hq:q = p
    . rw [if_pos hq] at z
      cases z
      subst hq
      refine ⟨l,rfl,hn,[],?_,?_⟩
      . rw [upd_ne (ne_of hl hd (by intro z; cases z))]; exact hl
      . rw [c q hv]; exact .nil
    . rw [if_neg hq] at z
      obtain ⟨m,rfl,hm,zs,hz,pz⟩:=e q v z
      refine ⟨m,rfl,hm,zs,?_,Pd.imp pz (NpQ.imp tk)⟩
      rw [upd_ne (ne_of hz hd (by intro z; cases z))]; exact hz
  . rw [valV_snoc2 hv] at z1 z2
    by_cases h1:q = p <;> by_cases h2:r = p
    . rw [h1,h2]
    . rw [if_pos h1] at z1; rw [if_neg h2] at z2
      cases z1
      exact absurd z2 (hf r)
    . rw [if_neg h1] at z1; rw [if_pos h2] at z2
      cases z2
      exact absurd z1 (hf q)
    . rw [if_neg h1] at z1; rw [if_neg h2] at z2
      exact g q r m z1 z2
theorem BI.mono {H H1:Hp} {d:Addr} {f:Key -> List (Nat×Key)} {m n:Nat} (B:BI H H1 d f m) (h:m <= n):BI H H1 d f n:=by
  obtain ⟨kvs,a,b,c⟩:=B.ex
  exact ⟨B.same,B.dn,kvs,a,Nat.le_trans b h,c⟩
theorem BI.non {H H1:Hp} {d l:Addr} {f:Key -> List (Nat×Key)} {n:Nat} (B:BI H H1 d f n) (h:H1 l = none):H l = none:=by
  cases e:H l with
  | none => rfl
  | some o => rw [B.same _ _ e] at h; cases h
theorem BI.more {H H1:Hp} {d l q t:Addr} {p:Key} {x:Nat×Key} {f:Key -> List (Nat×Key)} {n:Nat} {kvs:List (Key×V)} {xs:List V} (B:BI H H1 d f n) (hd:H1 d = some (.dK kvs)) (hv:valV kvs p = some (.ref l)) (hl:H1 l = some (.lst xs)) (hq:H1 q = none) (ht:upd H1 q (.lst []) t = none) :
    BI H (upd (upd (upd H1 q (.lst [])) t (.tup [.int x.1,kV x.2])) l (.lst (xs ++ [.ref t]))) d (bs1 f p x) (n + 1) :=
  (((B.alloc hq).alloc ht).old (upd_old ht (upd_old hq hd)) hv (upd_old ht (upd_old hq hl)) upd_same).mono (Nat.le_succ _)
theorem BI.new {H H1:Hp} {d l t:Addr} {p:Key} {x:Nat×Key} {f:Key -> List (Nat×Key)} {n:Nat} {kvs:List (Key×V)} (B:BI H H1 d f n) (hd:H1 d = some (.dK kvs)) (hv:valV kvs p = none) (hl:H1 l = none) (ht:upd (upd H1 l (.lst [])) d (.dK (kvs ++ [(p,.ref l)])) t = none) :
    BI H (upd (upd (upd (upd H1 l (.lst [])) d (.dK (kvs ++ [(p,.ref l)]))) t (.tup [.int x.1,kV x.2])) l (.lst ([] ++ [.ref t]))) d (bs1 f p x) (n + 1):=by
  have hdl:l ≠ d:=fun z => by subst z; rw [hl] at hd; cases hd
  have B1:=(B.alloc (o:=.lst []) hl).key (l:=l) (upd_old hl hd) hv upd_same (B.non hl) (fun q z => by
    obtain ⟨kvs',a,_,_,e,_⟩:=B.ex
    rw [hd] at a
    cases a
    obtain ⟨m,e1,_,zs,hz,_⟩:=e q _ z
    cases e1
    rw [hl] at hz
    cases hz)
  exact (B1.alloc ht).old (upd_old ht upd_same) (by rw [valV_snoc2 hv,if_pos rfl]) (upd_old ht (by rw [upd_ne hdl]; exact upd_same)) upd_same
noncomputable def BsOf (net:List (RunD Key)) (i:Nat) (f:Key -> List (Nat×Key)):Prop:=∀ q k x,(k,x) ∈ f q ↔ k < i /\ ∃ r,net[k]? = some r /\ Jn r q x
theorem BsOf.zero {net:List (RunD Key)}:BsOf net 0 (fun _ => []):=fun q k x => ⟨fun h => by simp at h,fun h => absurd h.1 (Nat.not_lt_zero _)⟩
theorem BsOf.next {net:List (RunD Key)} {i:Nat} {f:Key -> List (Nat×Key)} {r:RunD Key} (h:BsOf net i f) (hr:net[i]? = some r):BsOf net (i + 1) (bs1 (bs1 f r.1 (i,r.2.1)) r.2.1 (i,r.1)):=by
  intro q k x
  have key:(k,x) ∈ bs1 (bs1 f r.1 (i,r.2.1)) r.2.1 (i,r.1) q ↔ (k,x) ∈ f q ∨ (q = r.1 /\ k = i /\ x = r.2.1) ∨ (q = r.2.1 /\ k = i /\ x = r.1):=by
    unfold bs1
    split <;> split <;> simp_all
  rw [key,h q k x]
  constructor
  . rintro (⟨h1,h2⟩ | ⟨rfl,rfl,rfl⟩ | ⟨rfl,rfl,rfl⟩)
    . exact ⟨by omega,h2⟩
    . exact ⟨by omega,r,hr,.inl ⟨rfl,rfl⟩⟩
    . exact ⟨by omega,r,hr,.inr ⟨rfl,rfl⟩⟩
  . rintro ⟨h1,r',h2,h3⟩
    by_cases hk:k = i
    . subst hk
      rw [hr] at h2
      cases h2
      rcases h3 with ⟨rfl,rfl⟩ | ⟨rfl,rfl⟩
      . exact .inr (.inl ⟨rfl,rfl,rfl⟩)
      . exact .inr (.inr ⟨rfl,rfl,rfl⟩)
    . exact .inl ⟨by omega,r',h2,h3⟩
noncomputable def Bes (H:Hp) (d:Addr) (net:List (RunD Key)):Prop:=∃ kvs f,H d = some (.dK kvs) /\ BsOf net net.length f /\ (∀ q,(f q).length <= 2 * net.length) /\ (∀ p,valV kvs p = none -> f p = []) /\ ∀ p v,valV kvs p = some v -> ∃ l,v = .ref l /\ LQ NpQ H l (f p)
theorem nd_len {α:Type} [DecidableEq α]:∀ {l m:List α},l.Nodup -> (∀ x ∈ l,x ∈ m) -> l.length <= m.length
  | [],_,_,_ => Nat.zero_le _
  | a :: l,m,nd,h => by
    rw [List.nodup_cons] at nd
    have ha:=h a (by simp)
    have:=nd_len (l:=l) (m:=m.erase a) nd.2 fun x hx => by
      have hne:x ≠ a:=fun z => nd.1 (by rw [← z]; exact hx)
      exact (List.mem_erase_of_ne hne).mpr (h x (by simp [hx]))
    have h2:=List.length_erase_of_mem ha
    have h3:0 < m.length:=List.length_pos_of_mem ha
    rw [List.length_cons]
    omega
section
variable {te:TE} {Q:VK} {H:Hp} {caps:St}
end
noncomputable def Kp2 (a b:Addr) (H H':Hp):Prop:=∀ c o,c ≠ a -> c ≠ b -> H c = some o -> H' c = some o
theorem Kp2.refl {a b:Addr} (H:Hp):Kp2 a b H H:=fun _ _ _ _ h => h
theorem Kp2.trans {a b:Addr} {H H1 H2:Hp} (x:Kp2 a b H H1) (y:Kp2 a b H1 H2):Kp2 a b H H2:=fun c o h1 h2 h => y c o h1 h2 (x c o h1 h2 h)
theorem Same.kp2 {a b:Addr} {H H':Hp} (s:Same H H'):Kp2 a b H H':=fun c o _ _ h => s _ _ h
theorem Kp2.l {a b:Addr} {H:Hp} {o:HO}:Kp2 a b H (upd H a o):=fun c u h1 _ h => by rw [upd_ne h1]; exact h
theorem Kp2.r {a b:Addr} {H:Hp} {o:HO}:Kp2 a b H (upd H b o):=fun c u _ h2 h => by rw [upd_ne h2]; exact h
theorem Kp2.tk {a b:Addr} {H H':Hp} {x y:List (Key×V)} (k:Kp2 a b H H') (ha:H a = some (.dK x)) (hb:H b = some (.dK y)):TK H H':=fun p xs h => k p _ (ne_of h ha (by intro z; cases z)) (ne_of h hb (by intro z; cases z)) h
theorem Kp2.lst {a b p:Addr} {H H':Hp} {x y:List (Key×V)} {xs:List V} (k:Kp2 a b H H') (ha:H a = some (.dK x)) (hb:H b = some (.dK y)) (h:H p = some (.lst xs)):H' p = some (.lst xs):=k p _ (ne_of h ha (by intro z; cases z)) (ne_of h hb (by intro z; cases z)) h
theorem Kp2.same {a b:Addr} {H0 H H':Hp} (k:Kp2 a b H H') (s:Same H0 H) (ha:H0 a = none) (hb:H0 b = none):Same H0 H':=fun c o h => k c o (ne_of_none h ha) (ne_of_none h hb) (s _ _ h)
structure NetIn (H:Hp) (l:Addr) (net:List (RunD Key)) (D M:Nat):Prop where
  lq:LQ RunQ H l net
  len:net.length <= 120
  bd:∀ r ∈ net,Bd D M r.2.2
  pos:∀ r ∈ net,0 < r.2.2
structure PsIn (H:Hp) (l:Addr) (ps:List (Key×Rat)) (D M:Nat):Prop where
  lq:LQ KvQ H l ps
  len:ps.length <= 100
  bd:∀ r ∈ ps,Bd D M r.2
structure TsIn (H:Hp) (v:V) (ts:List (Key×Rat)):Prop where
  lq:(v = .non /\ ts = []) ∨ ∃ l,v = .ref l /\ LQ KvQ H l ts
  len:ts.length <= 100
  sz:∀ r ∈ ts,Sz 8000 r.2
structure Room8 (D M:Nat):Prop where
  ne:D ≠ 0
  d:D < 2 ^ 8000
  m:M * 1000 * D < 2 ^ 8000
theorem Room8.sz {D M N:Nat} {q:Rat} (R:Room8 D M) (h:Bd D N q) (hn:N <= M * 1000):Sz 8000 q:=h.sz R.ne R.d (Nat.lt_of_le_of_lt (Nat.mul_le_mul_right _ hn) R.m)
theorem LQ.sm {β:Type} {R:Hp -> V -> β -> Prop} {H H':Hp} {l:Addr} {ds:List β} (h:LQ R H l ds) (hR:∀ {H H' v b},R H v b -> TK H H' -> R H' v b) (s:Same H H'):LQ R H' l ds:=h.same (fun v b q => hR q s.tk) s
theorem DQ.sm {β:Type} {R:Hp -> V -> β -> Prop} {H H':Hp} {l:Addr} {ds:List (Key×β)} (h:DQ R H l ds) (hR:∀ {H H' v b},R H v b -> TK H H' -> R H' v b) (s:Same H H'):DQ R H' l ds:=let ⟨k,a,b⟩:=h; ⟨k,s _ _ a,b.imp fun v b q => hR q s.tk⟩
theorem NetIn.sm {H H':Hp} {l:Addr} {net:List (RunD Key)} {D M:Nat} (h:NetIn H l net D M) (s:Same H H'):NetIn H' l net D M:=⟨h.lq.sm RunQ.tk s,h.len,h.bd,h.pos⟩
theorem PsIn.sm {H H':Hp} {l:Addr} {ps:List (Key×Rat)} {D M:Nat} (h:PsIn H l ps D M) (s:Same H H'):PsIn H' l ps D M:=⟨h.lq.sm KvQ.tk s,h.len,h.bd⟩
theorem TsIn.sm {H H':Hp} {v:V} {ts:List (Key×Rat)} (h:TsIn H v ts) (s:Same H H'):TsIn H' v ts:=⟨h.lq.imp id fun ⟨l,e,q⟩ => ⟨l,e,q.sm KvQ.tk s⟩,h.len,h.sz⟩
theorem Bes.k2 {H H':Hp} {d a b:Addr} {net:List (RunD Key)} {x y:List (Key×V)} (h:Bes H d net) (k:Kp2 a b H H') (ha:H a = some (.dK x)) (hb:H b = some (.dK y)) (h1:d ≠ a) (h2:d ≠ b):Bes H' d net:=by
  obtain ⟨kvs,f,z1,z2,z3,z4,z5⟩:=h
  refine ⟨kvs,f,k _ _ h1 h2 z1,z2,z3,z4,fun p v e => ?_⟩
  obtain ⟨l,rfl,vs,q1,q2⟩:=z5 p v e
  exact ⟨l,rfl,vs,k.lst ha hb q1,Pd.imp q2 (NpQ.imp (k.tk ha hb))⟩
theorem Bes.sm {H H':Hp} {d:Addr} {net:List (RunD Key)} (h:Bes H d net) (s:Same H H'):Bes H' d net:=by
  obtain ⟨kvs,f,z1,z2,z3,z4,z5⟩:=h
  exact ⟨kvs,f,s _ _ z1,z2,z3,z4,fun p v e => let ⟨l,a,q⟩:=z5 p v e; ⟨l,a,q.sm NpQ.tk s⟩⟩
section
variable {σ:St} {H:Hp} {Q:VK} {K:PySem.W.Frag}
end
theorem FInv.imp {net:List (RunD Key)} {push:Key -> Option Rat} {tk:Nat -> Option Rat} {C C':Key -> Nat -> Key -> Prop} {W F:AL Key (EntD Key)} (I:FInv net push tk C W F) (h:∀ q k x r,net[k]? = some r -> Jn r q x -> C' q k x -> C q k x):FInv net push tk C' W F :=
  ⟨I.ndW,I.ndF,I.dis,I.sup,I.ord,I.mono,I.psh,fun q e hq k r p h1 h2 h3 h4 => I.clo q e hq k r p h1 h2 (h q k p r h1 h2 h3) h4⟩
noncomputable def univ (net:List (RunD Key)) (ps:List (Key×Rat)):List Key:=ps.map (·.1) ++ (net.map (·.1) ++ net.map (·.2.1))
theorem Sup.univ {net:List (RunD Key)} {ps:List (Key×Rat)} {tk:Nat -> Option Rat} {F:AL Key (EntD Key)} {p:Key} {e:EntD Key} (h:Sup net (aget (lst ps)) tk F p e):p ∈ univ net ps:=by
  obtain ⟨t,o⟩:=e
  cases o with
  | none =>
    have:=lst_mem (aget_mem (show aget (lst ps) p = some t from h))
    exact List.mem_append_left _ (List.mem_map.mpr ⟨_,this,rfl⟩)
  | some kq =>
    obtain ⟨r,e,h1,h2,_⟩:=h
    have hr:=List.mem_of_getElem? h1
    refine List.mem_append_right _ ?_
    rcases h2 with ⟨_,rfl⟩ | ⟨_,rfl⟩
    . exact List.mem_append_right _ (List.mem_map.mpr ⟨r,hr,rfl⟩)
    . exact List.mem_append_left _ (List.mem_map.mpr ⟨r,hr,rfl⟩)
theorem ix_LTc {X:Cx} {scope:Scope} {caps:List (Str×Addr)} {N:List Str} {C:Addr} {s0:Shared} {H0:Hp} {ex:List Addr}:IxR (cxComp X scope caps N C s0 H0 ex) (rIxLT X.K):=ix_LT
noncomputable abbrev TRun:=Str×Str×Rat
noncomputable def kn (n:List TRun):List (RunD Key):=n.map fun r => (Sum.inr r.1,Sum.inr r.2.1,r.2.2)
noncomputable def names (n:List TRun):List Str:=n.map (·.1) ++ n.map (·.2.1)
theorem kn_at {n:List TRun} {i:Nat} {r:RunD Key} (h:(kn n)[i]? = some r):∃ s,n[i]? = some s /\ r = (Sum.inr s.1,Sum.inr s.2.1,s.2.2):=by
  unfold kn at h
  rw [List.getElem?_map] at h
  cases e:n[i]? with
  | none => rw [e] at h; cases h
  | some s => rw [e] at h; exact ⟨s,rfl,(Option.some.inj h).symm⟩
noncomputable def OptQ (H:Hp) (v:V) (o:Option Rat):Prop:=match o with | none => v = .non | some q => FrQ H v q
theorem OptQ.tk {H H':Hp} {v:V} {o:Option Rat} (h:OptQ H v o) (t:TK H H'):OptQ H' v o:=by
  cases o with
  | none => exact h
  | some q => exact FrQ.tk h t
structure TOk (q:Rat):Prop where
  nn:0 <= q
  d:q.den <= 10 ^ 18
  n:q.num.natAbs <= 2 * 10 ^ 18
section
variable {σ:St} {H:Hp} {Q:VK} {K:PySem.W.Frag}
end
structure Room39 (D M:Nat):Prop where
  ne:D ≠ 0
  d:D < 2 ^ 3900
  m:M * 20000 * D < 2 ^ 3900
theorem Room39.sz {D M N:Nat} {q:Rat} (R:Room39 D M) (h:Bd D N q) (hn:N <= M * 20000):Sz 3900 q:=h.sz R.ne R.d (Nat.lt_of_le_of_lt (Nat.mul_le_mul_right _ hn) R.m)
structure TolI (H3 G:Hp) (dT:Addr) (net:List (RunD Key)) (ps:List (Key×Rat)) (D B:Nat) (m:AL Key Rat):Prop where
  kp:Kp dT H3 G
  dq:DQ FrQ G dT m
  nd:(m.map (·.1)).Nodup
  un:∀ x ∈ m,x.1 ∈ univ net ps
  bd:∀ x ∈ m,Bd D B x.2
theorem TolI.sm {H3 G G':Hp} {dT:Addr} {net:List (RunD Key)} {ps:List (Key×Rat)} {D B:Nat} {m:AL Key Rat} (t:TolI H3 G dT net ps D B m) (s:Same G G'):TolI H3 G' dT net ps D B m :=
  ⟨fun b o h1 h2 => s _ _ (t.kp b o h1 h2),t.dq.sm FrQ.tk s,t.nd,t.un,t.bd⟩
theorem TolI.mono {H3 G:Hp} {dT:Addr} {net:List (RunD Key)} {ps:List (Key×Rat)} {D B B':Nat} {m:AL Key Rat} (t:TolI H3 G dT net ps D B m) (h:B <= B'):TolI H3 G dT net ps D B' m :=
  ⟨t.kp,t.dq,t.nd,t.un,fun x hx => (t.bd x hx).mono h⟩
theorem TolI.len {H3 G:Hp} {dT:Addr} {net:List (RunD Key)} {ps:List (Key×Rat)} {D B:Nat} {m:AL Key Rat} (t:TolI H3 G dT net ps D B m):m.length <= ps.length + 2 * net.length:=by
  have hu:(univ net ps).length = ps.length + 2 * net.length:=by simp [univ]; omega
  have:=nd_len (m:=univ net ps) t.nd fun x hx => by
    obtain ⟨y,hy,rfl⟩:=List.mem_map.mp hx
    exact t.un y hy
  rwa [List.length_map,hu] at this
theorem aget_putF {m:AL Key Rat} {k:Key} {v:Rat}:aget (aput m k v) = fun p => if p = k then some v else aget m p:=by
  funext p
  exact aget_put m k p v
theorem Kp.sm {p:Addr} {H H1 H2:Hp} (k:Kp p H1 H2) (s:Same H H1) (hp:H p = none):Same H H2:=fun b o h => k _ _ (ne_of_none h hp) (s _ _ h)
theorem St3.sm {H H':Hp} {p:Addr} {n:Int} (h:St3 H p n) (s:Same H H'):St3 H' p n:=let ⟨a,b,c,x,y⟩:=h; ⟨a,b,c,s _ _ x,y⟩
noncomputable def dprod:List Rat -> Nat
  | [] => 1
  | q :: r => q.den * dprod r
theorem dprod_dvd:∀ {l:List Rat} {q:Rat},q ∈ l -> q.den ∣ dprod l
  | a :: r,q,h => by
    rcases List.mem_cons.mp h with rfl | h
    . exact Nat.dvd_mul_right _ _
    . exact Nat.dvd_trans (dprod_dvd h) (Nat.dvd_mul_left _ _)
theorem dprod_ne:∀ l:List Rat,dprod l ≠ 0
  | [] => by decide
  | q :: r => Nat.mul_ne_zero q.den_nz (dprod_ne r)
theorem dprod_le:∀ {l:List Rat},(∀ q ∈ l,q.den <= 10 ^ 18) -> dprod l <= (10 ^ 18) ^ l.length
  | [],_ => Nat.le_refl _
  | q :: r,h => by
    rw [List.length_cons,Nat.pow_succ,Nat.mul_comm]
    exact Nat.mul_le_mul (h q (by simp)) (dprod_le fun x hx => h x (by simp [hx]))
theorem room_of {l:List Rat} (h:∀ q ∈ l,TOk q) (hl:l.length <= 40):Room39 (dprod l) (2 * 10 ^ 18) /\ Room8 (dprod l) (2 * 10 ^ 18) /\ ∀ q ∈ l,Bd (dprod l) (2 * 10 ^ 18) q:=by
  have h1:=dprod_le fun q hq => (h q hq).d
  have h2:(10 ^ 18) ^ l.length <= (10 ^ 18) ^ 40:=Nat.pow_le_pow_right (by decide) hl
  have h3:dprod l <= (10 ^ 18) ^ 40:=Nat.le_trans h1 h2
  have h4:(10 ^ 18) ^ 40 < 2 ^ 3900:=by decide +kernel
  have h5:2 * 10 ^ 18 * 20000 * (10 ^ 18) ^ 40 < 2 ^ 3900:=by decide +kernel
  have h6:2 * 10 ^ 18 * 1000 * (10 ^ 18) ^ 40 < 2 ^ 8000:=by decide +kernel
  have h7:(10 ^ 18) ^ 40 < 2 ^ 8000:=by decide +kernel
  refine ⟨⟨dprod_ne l,Nat.lt_of_le_of_lt h3 h4,Nat.lt_of_le_of_lt (Nat.mul_le_mul_left _ h3) h5⟩,⟨dprod_ne l,Nat.lt_of_le_of_lt h3 h7,Nat.lt_of_le_of_lt (Nat.mul_le_mul_left _ h3) h6⟩,fun q hq => (Bd.of (h q hq).n).dvd (dprod_dvd hq)⟩
theorem net_in {H:Hp} {l:Addr} {n:List TRun} {D M:Nat} (lq:LQ RunQ H l (kn n)) (hl:n.length <= 120) (hb:∀ r ∈ n,Bd D M r.2.2) (hp:∀ r ∈ n,0 < r.2.2):NetIn H l (kn n) D M:=by
  refine ⟨lq,by simpa [kn] using hl,fun r hr => ?_,fun r hr => ?_⟩
  . obtain ⟨s,hs,rfl⟩:=List.mem_map.mp hr
    exact hb s hs
  . obtain ⟨s,hs,rfl⟩:=List.mem_map.mp hr
    exact hp s hs
noncomputable abbrev sA:Str:=Str.ofString "a"
noncomputable abbrev sB:Str:=Str.ofString "b"
noncomputable def n0:List TRun:=[(sA,sB,Rat.divInt 1 2)]
noncomputable def ps0:List (Key×Rat):=[(Sum.inr sB,Rat.divInt 1 3)]
theorem ab:(Sum.inr sA:Key) ≠ Sum.inr sB:=by decide +kernel
theorem r_pow12 {H:Hp} {Q:VK} (k:Q (.int 1000000000000) H):rI CPow (fun i j => .int (i ^ j.toNat)) (.int 10) (.int 12) H Q:=r_I ⟨by decide,by decide,by decide⟩ k
theorem Rlx.more {tk:Nat -> Option Rat} {k:Nat} {x s t:Rat} {a b:Key} {m:AL Key Rat} (h1:aget m a = some s) (hn:NotOut tk k (s + x)) (h2:aget m b = some t) (c:¬ s + x < t):Rlx tk k x a b (aget m) (aget m):=by
  refine .inr (.inr ⟨s,h1,hn,.inr ⟨t,h2,?_⟩⟩)
  funext p
  by_cases e:p = b
  . subst e
    rw [if_pos rfl,h2]
    by_cases d:t < s + x
    . rw [if_pos d]
    . rw [if_neg d,Rat.le_antisymm (Rat.not_lt.mp d) (Rat.not_lt.mp c)]
  . rw [if_neg e]
theorem Rlx.new {tk:Nat -> Option Rat} {k:Nat} {x s:Rat} {a b:Key} {m:AL Key Rat} (h1:aget m a = some s) (hn:NotOut tk k (s + x)) (h2:aget m b = none):Rlx tk k x a b (aget m) (aget (aput m b (s + x))):=.inr (.inr ⟨s,h1,hn,.inl ⟨h2,aget_putF⟩⟩)
end L2
namespace L2
open PySem PySem.Spec PySem.W PySem.Calls PyProof.Rows PySem.Builtin PySem.Builtin.ObjectAttr PySem.Builtin.Getset_descriptor
structure XCls (K:Frag) (C:Addr):Prop where
  ga:findIn K (.ref C) "__getattribute__" = some (some (.builtin "BaseException.__getattribute__"))
  gt:findIn K (.ref C) "__getattr__" = some none
  ca:findIn K (.ref C) "__class__" = some (some (.builtin "object.__class__"))
  ob:subIn K (.ref C) (.type "object") = some true
  be:subIn K (.ref C) (.type "BaseException") = some true
  ic:(clsIn K C).isSome = true
theorem XCls.obj {K:Frag} {C:Addr} (Z:XCls K C):∃ c d cd sl,K.lookup C = some ⟨c,d,.cls cd,sl⟩:=by
  have q:=Z.ic
  unfold clsIn at q
  split at q
  . exact ⟨_,_,_,_,by assumption⟩
  . cases q
noncomputable def KitR (a C:Addr) (h:Heap):Prop:=∃ o,h.get? a = some o /\ o.cls = .ref C
theorem KitR.ty {a C:Addr} {h:Heap} (M:Model) (p:KitR a C h):Looks M h (typeOf (.ref a)) (.ref C):=by
  obtain ⟨o,h1,h2⟩:=p
  have q:=(Looks.ld (M:=M) (part:=some headPart) h1).andThen (f:=fun o => pure o.cls) .now
  rw [h2] at q; exact q
section
variable {prog:Program} {w:World} {A:Around} {E:Value -> Shared -> Prop} {s:Shared} {K:Frag} {x C:Addr}
theorem x_class_get {R:Result -> Shared -> Prop} {tp:Value} (Z:XCls K C) (X:K.In s.heap) (p:KitR x C s.heap) (h:R (.ok (.ret (.ref C))) s) :
    codeAny (model prog w) A (.call (.builtin "getset_descriptor.__get__") ⟨[.builtin "object.__class__",.ref x,tp],[]⟩) R s:=by
  obtain ⟨h1,gs,dw,tn,so⟩:=s
  have L0:=p.ty (model prog w)
  have L1:=looks_subIn (M:=model prog w) X Z.ob
  refine codeAny_call_builtin (h:=KF.slot_gs.check _ _ _ _ _ _ _ _ KF.type_class (KF.args_gs _ _ _) ?_) KF.slot_gs.plain KF.entry_gs
  unfold Builtin.«getset_descriptor.__get__»; unfold descrGet; rw [dga_obj]; refine wpAny_bind (wpAny_pure ?_)
  unfold descrGetter descrCheckInstance; unfold descrNameAndClass isInstance; simp only [KF.owner_class]
  repeat lk
  refine ⟨Code.quiet_builtin _ (by decide +kernel),?_⟩; refine codeAny_builtin KF.entry_class ?_; unfold Builtin.«object.__class__»; unfold shownTypeOf
  repeat lk
  exact h
theorem x_check {nameV:Value} {Q:Unit -> Shared -> Prop} (Z:XCls K C) (X:K.In s.heap) (p:KitR x C s.heap) (h:Q () s):wpAny (model prog w) A (checkBuiltinCall "BaseException.__getattribute__" ⟨[.ref x,nameV],[]⟩) Q E s:=by
  obtain ⟨h1,gs,dw,tn,so⟩:=s
  have q1:builtinKind "BaseException.__getattribute__" = some .slot:=by decide +kernel
  have q2:splitId "BaseException.__getattribute__" = some ("BaseException","__getattribute__"):=by decide +kernel
  have L0:=p.ty (model prog w)
  have L1:=looks_subIn (M:=model prog w) X Z.be
  have ha:=F.args_bexc_ga (.ref x) nameV
  simp only [checkBuiltinCall,q1,q2]
  refine wpAny_bind ?_
  . unfold isInstance
    repeat (first | lk | wp_step)
    exact h
theorem x_entry {tk:Tok} {Q:Fin -> Shared -> Prop} (Z:XCls K C) (X:K.In s.heap) (p:KitR x C s.heap) (h:Q (.done (.ret (.ref C))) s) :
    wpAny (model prog w) A (Builtin.«object.__getattribute__» ⟨[.ref x,.str "__class__" tk],[]⟩) Q E s:=by
  obtain ⟨h1,gs,dw,tn,so⟩:=s
  have L0:=p.ty (model prog w)
  have L1:=looks_findIn (M:=model prog w) X Z.ca
  have q5:=F.typeOf_object_class; have q6:=F.slot_gs_get.lookup; have q7:=F.slot_gs_set.lookup
  obtain ⟨o,hx,hc⟩:=id p
  repeat (any_goals (first | assumption | (with_reducible refine wpAny_loadPart_at hx ?_; rw [hc]) | with_reducible refine L1.here ?_ | wp_step))
  refine x_class_get Z X p ?_
  repeat any_goals (first | assumption | wp_step)
theorem x_call {tk:Tok} {R:Result -> Shared -> Prop} (Z:XCls K C) (X:K.In s.heap) (p:KitR x C s.heap) (h:R (.ok (.ret (.ref C))) s) :
    codeAny (model prog w) A (.call (.builtin "BaseException.__getattribute__") ⟨[.ref x,.str "__class__" tk],[]⟩) R s :=
  codeAny_call_builtin F.attr_ValueError.ga.plain F.entry_bexc_ga (x_check Z X p (x_entry Z X p h))
theorem x_by {tk:Tok} {Q:Value -> Shared -> Prop} (Z:XCls K C) (X:K.In s.heap) (p:KitR x C s.heap) (h:Q (.ref C) s) :
    wpAny (model prog w) A (getAttrBy (.ref x) (.str "__class__" tk) false) Q E s:=by
  obtain ⟨h1,gs,dw,tn,so⟩:=s
  have L0:=p.ty (model prog w)
  have L1:=looks_findIn (M:=model prog w) X Z.ga
  have L2:=looks_findIn (M:=model prog w) X Z.gt
  have f3:=F.attr_ValueError.ga.bind (.ref x)
  have n2:(Value.builtin "BaseException.__getattribute__" == Value.builtin "object.__getattribute__") = false:=by decide +kernel
  have n1:(onTheHeap (Value.ref C) && Value.builtin "BaseException.__getattribute__" == Value.builtin "object.__getattribute__") = false:=by rw [n2]; rfl
  have n0:(false && onTheHeap (Value.builtin "BaseException.__getattribute__")) = false:=rfl
  obtain ⟨o,hx,hc⟩:=id p
  repeat (any_goals (first | assumption | (with_reducible refine wpAny_loadPart_at hx ?_; rw [hc]) | with_reducible refine L1.here ?_ | with_reducible refine L2.here ?_ | wp_step))
  refine x_call Z X p ?_
  repeat any_goals (first | assumption | wp_step)
theorem x_cls {Q:Option Value -> Shared -> Prop} (Z:XCls K C) (X:K.In s.heap) (p:KitR x C s.heap) (h:Q (some (.ref C)) { s with toks:=s.toks + 1 }):wpAny (model prog w) A (getAttr? (.ref x) "__class__") Q E s:=by
  obtain ⟨h1,gs,dw,tn,so⟩:=s
  unfold getAttr? getAttrBy?
  exact wpAny_bind (wpAny_mkText (wpAny_bind (wpAny_attempt (x_by (s:=⟨h1,gs,dw,tn + 1,so⟩) Z X p (wpAny_pure h)))))
end
theorem kitx_exc {K:Frag} {a C:Addr} (Z:XCls K C):KitX K (.ref a) (.ref C) (KitR a C) where
  ty:=fun M h _ p => p.ty M
  it:=fun M h X _ => by
    obtain ⟨c,d,cd,sl,ho⟩:=Z.obj
    intro A' Q' E' s' k q
    unfold isType loadHead
    exact wpAny_bind (wpAny_loadPart (k C _ (X C _ ho)) (wpAny_pure q))
  ne:=fun h b _ _ _ _ X hb => by
    obtain ⟨c,d,cd,sl,ho⟩:=Z.obj
    refine Bool.eq_false_iff.mpr ?_
    intro q
    obtain rfl:C = b:=Value.ref.inj (beq_iff_eq.mp q)
    rw [X C _ ho] at hb; cases hb
  ca:=fun X p k => x_cls Z X p k
end L2
namespace L2
open PySem PySem.Spec PyProof.Rows
structure Kpt (fs xs:List Addr) (h h':Heap):Prop where
  keep:∀ b o,h.get? b = some o -> b ∉ fs -> b ∉ xs -> h'.get? b = some o
  slot:∀ b o,h.get? b = some o -> b ∈ fs -> b ∉ xs -> ∃ sl,h'.get? b = some { o with slots:=sl }
section
variable {fs fs' xs xs':List Addr} {h h0 h1 h2 h':Heap} {H H':Hp} {P:Program} {w:World}
theorem Kpt.there (k:Kpt fs xs h h') {b:Addr} {o:Obj} (e:h.get? b = some o) (n:b ∉ xs):∃ sl,h'.get? b = some { o with slots:=sl }:=by
  by_cases hb:b ∈ fs
  . exact k.slot b o e hb n
  . exact ⟨o.slots,k.keep b o e hb n⟩
theorem Kpt.mv {L:Addr} (k:Kpt (L :: fs) xs h h'):Kpt fs (L :: xs) h h' where
  keep:=fun b o e n m => k.keep b o e (fun z => (List.mem_cons.mp z).elim (fun q => m (q ▸ List.mem_cons_self)) n) fun z => m (List.mem_cons_of_mem _ z)
  slot:=fun b o e n m => k.slot b o e (List.mem_cons_of_mem _ n) fun z => m (List.mem_cons_of_mem _ z)
theorem ObjOk.at {a:Addr} {o:HO} (x:ObjOk P w H h a o):∃ ob,h.get? a = some ob:=by
  cases o with
  | lst xs => obtain ⟨_,_,_,_,e⟩:=x; exact ⟨_,e⟩
  | tup xs => obtain ⟨_,_,_,⟨o,e,_⟩⟩:=x; exact ⟨_,e⟩
  | dK kvs => obtain ⟨_,_,_,_,o,_,_,e,_⟩:=x; exact ⟨_,e⟩
  | dT kvs => obtain ⟨_,_,_,_,o,_,_,e,_⟩:=x; exact ⟨_,e⟩
  | set S n => obtain ⟨o,_,_,_,e,_⟩:=x; exact ⟨_,e⟩
  | ins C dx fs => obtain ⟨_,_,_,e,_⟩:=x; exact ⟨_,e⟩
  | own y => obtain ⟨_,e⟩:=x; exact ⟨_,e⟩
  | xd fs => obtain ⟨_,⟨_,_,_,e,_⟩,_⟩:=x; exact ⟨_,e⟩
  | rng lo hi => obtain ⟨_,_,_,e⟩:=x; exact ⟨_,e⟩
  | frz ob u => obtain ⟨e,_⟩:=x; exact ⟨_,e⟩
  | tbl ps => exact ⟨_,(show h.get? a = some _ from x)⟩
  | met f y => exact ⟨_,(show h.get? a = some _ from x)⟩
  | ext φ => obtain ⟨_,⟨_,e⟩,_⟩:=x; exact ⟨_,e⟩
theorem HOk.none_of (x:HOk P w H h) {a:Addr} (e:h.get? a = none):H a = none:=by
  cases q:H a with
  | none => rfl
  | some o =>
    obtain ⟨ob,z⟩:=(x a o q).at
    rw [e] at z; cases z
theorem HOk.kpt (ok:HOk P w H h) (k:Kpt fs xs h h') (hf:∀ b ∈ fs,H b = none) (hx:∀ b ∈ xs,H b = none):HOk P w H h':=fun a o e => by
  have key:∀ b u,H b = some u -> b ∉ fs /\ b ∉ xs:=fun b u q => ⟨fun z => (by rw [hf b z] at q; cases q),fun z => (by rw [hx b z] at q; cases q)⟩
  refine (ok a o e).stay (fun b u hb q => ?_) (fun _ q => q) fun _ _ q => q
  rcases hb with rfl | hb
  . exact k.keep b u q (key b o e).1 (key b o e).2
  . exact k.keep b u q (key b _ hb).1 (key b _ hb).2
theorem HOk.track (ok:HOk P w H h) {a:Addr} {o:HO} (hn:H a = none) (new:ObjOk P w (upd H a o) h a o):HOk P w (upd H a o) h:=fun b u q => by
  by_cases hb:b = a
  . subst hb; rw [upd_same] at q; cases q; exact new
  . rw [upd_ne hb] at q
    exact (ok b u q).stay (fun _ _ _ z => z) (fun c r => by rw [upd_ne (ne_of_none r hn)]; exact r) fun c xs r => by rw [upd_ne (ne_of_none r hn)]; exact r
theorem Un.kpt (u:Un fs [] H H' h0 h) (k:Kpt fs xs h h') (hx:∀ b ∈ xs,h0.get? b = none):Un fs [] H H' h0 h':=by
  have nx:∀ b o,h0.get? b = some o -> b ∉ xs:=fun b o e z => by rw [hx b z] at e; cases e
  refine ⟨fun b o e n hb he => k.keep b o (u.keep b o e n hb he) hb (nx b o e),fun b o e n hb he => ?_,u.free,fun b o e he => ?_,u.tups,u.frzs,u.tbls⟩
  . obtain ⟨sl,q⟩:=u.slot b o e n hb he
    obtain ⟨sl',q'⟩:=k.slot b _ q hb (nx b o e)
    exact ⟨sl',q'⟩
  . obtain ⟨o',q⟩:=u.there b o e he
    obtain ⟨sl,q'⟩:=k.there q (nx b o e)
    exact ⟨_,q'⟩
theorem Un.track {ex:List Addr} {a:Addr} {o:HO} (u:Un fs ex H H' h h') (hn:H' a = none) (hh:h.get? a = none):Un fs ex H (upd H' a o) h h' where
  keep:=u.keep
  slot:=u.slot
  free:=fun b ob e n hx => by rw [upd_ne (fun z => by rw [z,hh] at e; cases e)]; exact u.free b ob e n hx
  there:=u.there
  tups:=fun b xs q => by rw [upd_ne (ne_of_none (u.tups b xs q) hn)]; exact u.tups b xs q
  frzs:=fun b ob xs q => by rw [upd_ne (ne_of_none (u.frzs b ob xs q) hn)]; exact u.frzs b ob xs q
  tbls:=fun b ps q => by
    obtain ⟨m,e⟩:=u.tbls b ps q
    exact ⟨m,by rw [upd_ne (ne_of_none e hn)]; exact e⟩
theorem Un.was (u:Un fs [] H H' h h') {a:Addr} (e:h'.get? a = none):h.get? a = none:=by
  cases q:h.get? a with
  | none => rfl
  | some o =>
    obtain ⟨o',z⟩:=u.there a o q (by simp)
    rw [e] at z; cases z
end
noncomputable def FlyA (x T C:Addr) (fl:Value) (h:Heap):Prop:=∃ oe vs oT ts,h.get? x = some oe /\ oe.cls = .ref C /\ oe.data = .fields vs /\ vs[1]? = some (.ref T) /\ vs[2]? = some .none /\ T ≠ x /\ h.get? T = some oT /\ oT.data = .fields ts /\ ts[3]? = some fl
noncomputable abbrev Fly (x T C:Addr) (h:Heap):Prop:=FlyA x T C .none h
noncomputable def ExR (x C:Addr) (h:Heap):Prop:=∃ o vs,h.get? x = some o /\ o.cls = .ref C /\ o.data = .fields vs /\ vs[2]? = some .none
theorem ExR.kitR {x C:Addr} {h:Heap} (f:ExR x C h):KitR x C h:=by
  obtain ⟨oe,_,e,c,_⟩:=f
  exact ⟨oe,e,c⟩
theorem FlyA.exR {x T C:Addr} {fl:Value} {h:Heap} (f:FlyA x T C fl h):ExR x C h:=by
  obtain ⟨oe,vs,_,_,e,c,d,_,z,_⟩:=f
  exact ⟨oe,vs,e,c,d,z⟩
theorem Kpt.refl {fs xs:List Addr} {h:Heap}:Kpt fs xs h h:=⟨fun _ _ e _ _ => e,fun _ o e _ _ => ⟨o.slots,e⟩⟩
theorem Kpt.upd {fs xs:List Addr} {h h1:Heap} {a:Addr} (k:Kpt fs xs h h1) (f:Obj -> Obj) (ha:a ∈ xs ∨ h.get? a = none):Kpt fs xs h (h1.update a f):=by
  have na:∀ b o,h.get? b = some o -> b ∉ xs -> a ≠ b:=fun b o e n z => by
    rcases ha with q | q
    . exact n (z ▸ q)
    . rw [z,e] at q; cases q
  exact ⟨fun b o e n m => (Heap.get?_update_other _ _ (na b o e m)).trans (k.keep b o e n m),fun b o e n m => (k.slot b o e n m).imp fun sl q => (Heap.get?_update_other _ _ (na b o e m)).trans q⟩
theorem Kpt.push {fs xs:List Addr} {h h1:Heap} (k:Kpt fs xs h h1) (o:Obj):Kpt fs xs h (h1.push o) :=
  ⟨fun b u e n m => Heap.get?_push_of_some _ (k.keep b u e n m),fun b u e n m => (k.slot b u e n m).imp fun sl q => Heap.get?_push_of_some _ q⟩
section
variable {M:Model} {A:Around} {E:Value -> Shared -> Prop} {s:Shared} {base:Heap} {env:Env} {outer l:List Env} {L x T C:Addr} {Q:Unit -> Shared -> Prop}
noncomputable def newHead (env:Env) (L x:Addr) (head:Value) (b:Bool):Sem Unit:=frameOf env >>= fun a => entryPlaceOf L b >>= fun pl => EntryCells.newEntry head a .none (rawInt L) .none pl >>= fun v => setField (.ref x) 1 v
theorem fl_entry {oe:Obj} {vs:Array Value} {head:Value} {b:Bool} (hfr:A.frames = some (env :: outer)) (hf:env.frame = some L) (hl:s.heap.FunFrames base (env :: outer)) (he:s.heap.get? x = some oe) (hc:oe.cls = .ref C) (hd:oe.data = .fields vs)
    (h1:1 < vs.size) (h2:vs[2]? = some .none) (k:∀ h' T',FlyA x T' C (rawInt L) h' -> s.heap.get? T' = none -> Kpt (frs (env :: outer)) [x] s.heap h' -> Q () { s with heap:=h' }):wpAny M A (newHead env L x head b) Q E s:=by
  have nfr:x ∉ frs (env :: outer):=fun hm => by
    obtain ⟨_,o,ho,hn⟩:=hl.mem hm
    rw [he] at ho; cases ho
    exact hn vs hd
  refine wpAny_bind (wpAny_frameOf_fun hfr hl hf fun g hg => wpAny_bind (wpAny_entryPlaceOf fun pl hpl => wpAny_bind ?_))
  unfold EntryCells.newEntry newFields
  refine wpAny_newObj_type ?_ (hpl.sizeOk5 _ _ _ _ _)
  generalize hts:([head,Value.ref L,Value.none,rawInt L,Value.none] ++ (if pl.isEmpty then List.replicate 6 Value.none else pl)).toArray = ts
  have e1:g.get? x = some oe:=(hg.2.1 x nfr).trans he
  have nT:g.objs.size ≠ x:=Nat.ne_of_gt (Heap.lt_size e1)
  have e2:=Heap.get?_push_of_some (h:=g) { cls:=.type "traceback",dict:=none,data:=.fields ts } e1
  refine wpAny_setField e2 hd h1 (k _ g.objs.size ?_ ?_ ?_)
  . have d3:=Obj.data_mapFields hd (·.setIfInBounds 1 (Value.ref g.objs.size))
    refine ⟨_,_,_,ts,Heap.get?_update_self _ e2 (Obj.isFreed_of_fields d3),(Obj.cls_mapFields _ _).trans hc,d3,by simp [h1],?_,nT,(Heap.get?_update_other _ _ (Ne.symm nT)).trans (Heap.get?_push_size g rfl),rfl,by rw [← hts]; simp⟩
    rw [Array.getElem?_setIfInBounds_ne (by decide)]; exact h2
  . exact Heap.get?_none_of_le (Nat.le_of_eq hg.1.symm)
  . refine Kpt.upd (Kpt.push ⟨fun b o e n m => (hg.2.1 b n).trans e,fun b o e n m => hg.2.2 b o e⟩ _) _ (.inl (by simp))
theorem fl_land {fl:Value} {h0:Heap} {fs:List Addr} (f:FlyA x T C fl s.heap) (k0:Kpt fs [x,T] h0 s.heap ∨ (Kpt fs [x] h0 s.heap /\ h0.get? T = none))
    (k:∀ h',Fly x T C h' -> (Kpt fs [x,T] h0 h') -> (h0.get? T = none -> Kpt fs [x] h0 s.heap -> Kpt fs [x] h0 h') -> Q () { s with heap:=h' }):wpAny M A (setFlight (.ref x) none) Q E s:=by
  obtain ⟨oe,vs,oT,ts,e1,e2,e3,e4,e5,e6,e7,e8,e9⟩:=f
  have sz:3 < ts.size:=(Array.getElem?_eq_some_iff.mp e9).1
  unfold setFlight
  refine wpAny_bind (wpAny_field e1 e3 e4 ?_)
  rw [if_pos (by simp)]
  have d3:=Obj.data_mapFields e8 (·.setIfInBounds 3 ((none:Option Addr).elim Value.none fun f => rawInt f))
  refine wpAny_setField e7 e8 sz (k _ ⟨oe,vs,_,_,(Heap.get?_update_other _ _ e6).trans e1,e2,e3,e4,e5,e6,Heap.get?_update_self _ e7 (Obj.isFreed_of_fields d3),d3,by simp [sz]⟩ ?_ fun q z => z.upd _ (.inr q))
  rcases k0 with z | ⟨z,q⟩
  . exact z.upd _ (.inl (by simp))
  . exact Kpt.upd ⟨fun b o e n m => z.keep b o e n fun y => m (by simp at y; simp [y]),fun b o e n m => z.slot b o e n fun y => m (by simp at y; simp [y])⟩ _ (.inl (by simp))
theorem fl_note0 {oe:Obj} {vs:Array Value} (hfr:A.frames = some (env :: outer)) (hf:env.frame = some L) (hl:s.heap.FunFrames base (env :: outer)) (he:s.heap.get? x = some oe) (hc:oe.cls = .ref C) (hd:oe.data = .fields vs)
    (h1:vs[1]? = some .none) (h2:vs[2]? = some .none) (k:∀ h' T',FlyA x T' C (rawInt L) h' -> s.heap.get? T' = none -> Kpt (frs (env :: outer)) [x] s.heap h' -> Q () { s with heap:=h' }):wpAny M A (noteFrame (.ref x) env) Q E s:=by
  unfold noteFrame
  simp only [hf]
  refine wpAny_bind (wpAny_field he hd h1 ?_)
  rw [if_neg (by decide)]
  exact fl_entry hfr hf hl he hc hd (Array.getElem?_eq_some_iff.mp h1).1 h2 k
theorem fl_note1 (hfr:A.frames = some (env :: outer)) (hf:env.frame = some L) (hl:s.heap.FunFrames base (env :: outer)) (f:Fly x T C s.heap)
    (k:∀ h' T',FlyA x T' C (rawInt L) h' -> s.heap.get? T' = none -> Kpt (frs (env :: outer)) [x,T] s.heap h' -> Q () { s with heap:=h' }):wpAny M A (noteFrame (.ref x) env) Q E s:=by
  obtain ⟨oe,vs,oT,ts,e1,e2,e3,e4,e5,e6,e7,e8,e9⟩:=f
  unfold noteFrame
  simp only [hf]
  refine wpAny_bind (wpAny_field e1 e3 e4 ?_)
  rw [if_pos (by simp)]
  refine wpAny_bind (wpAny_field e7 e8 e9 ?_)
  rw [if_neg (by simp [rawInt])]
  refine wpAny_bind (wpAny_setField e7 e8 (Array.getElem?_eq_some_iff.mp e9).1 ?_)
  have oth:∀ b,b ≠ T -> (s.heap.update T (Obj.mapFields (·.setIfInBounds 3 Value.none))).get? b = s.heap.get? b:=fun b hb => Heap.get?_update_other _ _ (Ne.symm hb)
  have hl':(s.heap.update T (Obj.mapFields (·.setIfInBounds 3 Value.none))).FunFrames base (env :: outer):=hl.of_keeps fun b o hb hn => ⟨o,(oth b fun z => by rw [z,e7] at hb; cases hb; exact hn ts e8).trans hb,rfl⟩
  refine fl_entry (s:={ s with heap:=s.heap.update T (Obj.mapFields (·.setIfInBounds 3 Value.none)) }) hfr hf hl' ((oth x (Ne.symm e6)).trans e1) e2 e3 (Array.getElem?_eq_some_iff.mp e4).1 e5 fun h' T' f' n' k' => k h' T' f' ?_ ?_
  . cases z:s.heap.get? T' with
    | none => rfl
    | some o =>
      exfalso
      by_cases q:T' = T
      . have d3:=Obj.data_mapFields e8 (·.setIfInBounds 3 Value.none)
        have:=Heap.get?_update_self (Obj.mapFields (·.setIfInBounds 3 Value.none)) e7 (Obj.isFreed_of_fields d3)
        rw [← q,show Heap.get? (s.heap.update T' _) T' = none from q ▸ n'] at this; cases this
      . have:=(oth T' q).trans z
        rw [show Heap.get? (s.heap.update T _) T' = none from n'] at this; cases this
  . refine ⟨fun b o e n m => k'.keep b o ((oth b fun z => m (by simp [z])).trans e) n fun y => m (by simp at y; simp [y]),fun b o e n m => k'.slot b o ((oth b fun z => m (by simp [z])).trans e) n fun y => m (by simp at y; simp [y])⟩
theorem fly_note (hfr:A.frames = some (env :: outer)) (hf:env.frame = some L) (hl:s.heap.FunFrames base (env :: outer)) (f:Fly x T C s.heap)
    (k:∀ h' T',Fly x T' C h' -> (T' = T ∨ s.heap.get? T' = none) -> Kpt (frs (env :: outer)) [x,T] s.heap h' -> Q () { s with heap:=h' }) :
    wpAny M A (noteFrame (.ref x) env) (fun _ s₂ => wpAny M A (setFlight (.ref x) none) Q E s₂) E s:=by
  refine fl_note1 hfr hf hl f fun h1 T1 f1 n1 k1 => ?_
  refine fl_land (s:={ s with heap:=h1 }) (h0:=h1) (fs:=[]) f1 (.inl .refl) fun h2 f2 k2 _ => k h2 T1 f2 (.inr n1) ?_
  have nT:∀ b o,s.heap.get? b = some o -> b ∉ [x,T] -> b ∉ [x,T1]:=fun b o e m z => by
    rcases List.mem_cons.mp z with z | z
    . exact m (by simp [z])
    . rw [List.mem_singleton.mp z,n1] at e; cases e
  exact ⟨fun b o e n m => k2.keep b o (k1.keep b o e n m) (by simp) (nT b o e m),fun b o e n m => (k1.slot b o e n m).imp fun sl q => k2.keep b _ q (by simp) (nT b o e m)⟩
theorem fly_again (f:Fly x T C s.heap) (k:∀ h',Fly x T C h' -> Kpt (frs l) [x,T] s.heap h' -> Q () { s with heap:=h' }):wpAny M A (setFlight (.ref x) none) Q E s :=
  fl_land f (.inl (Kpt.refl (fs:=frs l))) fun h' f' k' _ => k h' f' k'
theorem fly_first {oe:Obj} {vs:Array Value} (hfr:A.frames = some (env :: outer)) (hf:env.frame = some L) (hl:s.heap.FunFrames base (env :: outer)) (he:s.heap.get? x = some oe) (hc:oe.cls = .ref C) (hd:oe.data = .fields vs)
    (h1:vs[1]? = some .none) (h2:vs[2]? = some .none)
    (k:∀ h' T',Fly x T' C h' -> s.heap.get? T' = none -> Kpt (frs (env :: outer)) [x] s.heap h' -> Q () { s with heap:=h' }):wpAny M A (leaving env (.ref x)) Q E s:=by
  unfold leaving
  refine wpAny_bind (fl_note0 hfr hf hl he hc hd h1 h2 fun g T1 f1 n1 k1 => ?_)
  exact fl_land (s:={ s with heap:=g }) f1 (.inr ⟨k1,n1⟩) fun h2 f2 _ k2 => k h2 T1 f2 n1 (k2 n1 k1)
end
end L2
namespace L2
open PySem PySem.Spec PyProof.Rows
noncomputable def excO (x C:Addr):HO:=.ext (ExR x C)
theorem excO_ok {P:Program} {w:World} {H:Hp} {h:Heap} {x C:Addr} (k:ExR x C h):ObjOk P w H h x (excO x C) :=
  ⟨k,(let ⟨o,_,e,_⟩:=k; ⟨o,e⟩),fun _ _ ⟨o,vs,e,c⟩ kp => ⟨o,vs,kp o e,c⟩⟩
noncomputable def CXe (P:Program) (w:World):CXT:=fun outer H s E e s' => ∃ x T C H',e = Value.ref x /\ s'.os = s.os /\ AllBare s'.gens /\ Un (frs outer) [] H H' s.heap s'.heap /\ HOk P w H' s'.heap /\
  s.heap.get? x = none /\ s.heap.get? T = none /\ H' x = none /\ H' T = none /\ Fly x T C s'.heap /\ E (.ref C) none H'
section
variable {P:Program} {w:World} {K:PySem.W.Frag} {mg:Str -> Option Value} {base:Heap} {N:List Str} {qual:Str} {scope:Scope} {f:Addr} {cd:Value} {A:Around} {outer:List Env} {s:Shared} {H:Hp} {E:XK}
theorem xe_new {pins:List (Addr×Obj)} {σ:St} {H1:Hp} {s1:Shared} {h':Heap} {x C:Addr} {args:List Value} (I:Inv (cxOf (CXe P w) P w K mg base N qual scope f cd A outer s H E) pins σ H1 s1)
    (m:Heap.MadeExcOf s1.heap h' x (.ref C) args) (q:E (.ref C) none H1):(cxOf (CXe P w) P w K mg base N qual scope f cd A outer s H E).xe (.ref x) { s1 with heap:=h' }:=by
  obtain ⟨t,he,htn,ht⟩:=m.there
  have fr:=I.stack
  refine fly_first (s:={ s1 with heap:=h' }) I.ok.frames rfl (fr.of_keeps fun b o z _ => ⟨o,m.keeps b o z,rfl⟩) he rfl rfl rfl rfl fun h2 T fl n k => ?_
  have k':Kpt (s.heap.objs.size :: frs outer) [x] h' h2:=k
  have u:Un (frs outer) [] H H1 s.heap s1.heap:=I.base
  have hn:∀ b,s1.heap.get? b = none -> s.heap.get? b = none:=fun b z => u.was z
  have hT:s1.heap.get? T = none:=by
    cases z:s1.heap.get? T with
    | none => rfl
    | some o =>
      have:=m.keeps T o z
      rw [show h'.get? T = none from n] at this; cases this
  refine ⟨x,T,C,H1,rfl,I.os,I.bare,((u.trans (Un.kept m.keeps)).kpt k'.mv fun b hb => ?_),(I.hok.kept m.keeps).kpt k' (fun b hb => I.stkFree b hb) (fun b hb => ?_),hn x m.new,hn T hT,I.hok.none_of m.new,I.hok.none_of hT,fl,q⟩
  . rcases List.mem_cons.mp hb with z | z
    . rw [z]; exact Heap.get?_none_of_le (Nat.le_refl _)
    . rw [List.mem_singleton.mp z]; exact hn x m.new
  . rw [List.mem_singleton.mp hb]; exact I.hok.none_of m.new
theorem passN {X:Cx}:Passes (CXe P w) X E0:=fun _ _ _ _ _ _ _ h => by
  obtain ⟨_,_,_,_,_,_,_,_,_,_,_,_,_,_,q⟩:=h
  exact q.elim
end
def bmVE:List Value:=[.type "ValueError",.type "Exception",.type "BaseException",.type "object"]
theorem exc_obj {K:PySem.W.Frag} {h:Heap} {C:Addr} {bmB:List Value} {newId:String} (X:K.In h) (q:PySem.W.excIn K C bmB newId = true) :
    ∃ nm qn N bs bm hdct sn sub ab col dd k0 k1 k2 k3 k5 mN,h.get? C = some (excClassObj nm qn C N bs bm hdct sn sub ab col dd k0 k1 k2 k3 k5 newId) /\ h.Ns N mN /\ mN "__init__" = none /\ OwnTail h bmB bm:=by
  unfold PySem.W.excIn at q
  split at q
  case h_2 => cases q
  rename_i dd cd sl ho
  split at q
  case h_2 => cases q
  rename_i C' bm k0 k1 k2 k3 n k5 hm hs
  simp only [Bool.and_eq_true,beq_iff_eq,Bool.not_eq_true'] at q
  obtain ⟨⟨⟨⟨⟨q1,q2⟩,q3⟩,q4⟩,q5⟩,q6⟩:=q
  subst q1 q2
  obtain ⟨c1,c2,c3,c4,c5,c6,c7,c8,c9,c10,c11⟩:=cd
  dsimp only at hm q3 q5 q6
  subst hm q3
  obtain ⟨l⟩:=sl
  have e:l = [k0,k1,k2,k3,some (.builtin n),k5]:=hs
  subst e
  exact ⟨_,_,_,_,_,_,_,_,_,_,_,_,_,_,_,_,_,X C' _ ho,.of_isNs (PySem.W.isNs_of_in X q5),PySem.W.nsMap_none_of_in X q5 q6,PySem.W.tail_of_in X q4⟩
noncomputable def tRaise (C:Addr) (E:XK) (t:TA):TS:=fun _ σ H => t σ H fun vs H1 => vs.length <= sizeLine /\ E (.ref C) none H1
theorem r_raise {C:Addr} {E:XK} {t:TA} {D:Ends} {σ:St} {H:Hp} (k:t σ H fun vs H1 => vs.length <= sizeLine /\ E (.ref C) none H1):tRaise C E t D σ H:=k
noncomputable def Raises (X:Cx) (E:XK):Prop:=∀ (pins:List (Addr×Obj)) (σ:St) (H1:Hp) (s1:Shared) (h':Heap) (x C:Addr) (args:List Value),Inv X pins σ H1 s1 -> Heap.MadeExcOf s1.heap h' x (.ref C) args -> E (.ref C) none H1 -> X.xe (.ref x) { s1 with heap:=h' }
theorem ps_raise {X:Cx} {E:XK} {C:Addr} {n:Str} {newId Bn inN:String} {bmN:List Value} {e:Expr} {es:List Expr} {t:TA} {np cpos pos:Pos} (hr:Raises X E) (hc:X.calm = true) (hg:Gl X n) (hm:X.mg n = some (.ref C))
    (hx:PySem.W.excIn X.K C bmVE newId = true) (Fn:ExcBaseFacts Bn newId inN bmN) (hBn:bmVE.contains (.type Bn) = true) (ha:PA X (e :: es) t)
    (hd:(n == ("__debug__":Str)) = false:=by decide) (he:starEach (e :: es) X.env = (false,eval e X.env) :: starEach es X.env:=by rfl) (hpl:(backTo cpos (starEach es X.env)).any (·.1) = false:=by rfl) :
    PS X (.Raise (some (.Call (.Name n np) (e :: es) [] cpos)) none pos) (tRaise C E t):=by
  intro pins s σ H D I h
  obtain ⟨nm,qn,N,bs,bm,hdct,sn,sub,ab,col,dd,k0,k1,k2,k3,k5,mN,hC,hN,hni,T0⟩:=exc_obj I.mod.kin hx
  have hpl':(backTo cpos (starEach (e :: es) X.env)).any (·.1) = false:=by rw [he]; exact hpl
  refine wpAny_Raise_call_subU (C:=C) (nm:=nm) (q:=qn) (N:=N) (bs:=bs) (hdct:=hdct) (sn:=sn) (sub:=sub) (ab:=ab) (col:=col) (dd:=dd) (k0:=k0) (k1:=k1) (k2:=k2) (k3:=k3) (k5:=k5)
    Fn hBn F.excBase_ValueError (T0.hasType (by decide)) (I.ok.hd hc) hpl' hni (mN:=mN) (ld_glob I hg hm ⟨rfl,?_⟩ hd)
  have hs:=ha cpos pins s σ H _ I h
  rw [he] at hs ⊢
  refine Calls.evalArgs_plain (thn hs fun us s1 ⟨vs,H1,I1,r,q1,q2⟩ => ?_)
  exact ⟨rfl,by rw [← r.length]; exact q1,I1.bk C _ hC,hN.keeps I1.bk,T0.keeps I1.bk,fun h' x m => hr pins σ H1 s1 h' x C us I1 m q2⟩
end L2
namespace L2
open PySem PySem.Spec PyProof.Rows
structure OkfX (P:Program) (w:World) (K:PySem.W.Frag) (mg:Str -> Option Value) (base:Heap) (k:Nat) (x:Str) (ps:List Str) (dvs:List V) (sp:Sp):Prop where
  ex:∃ (f:Addr) (fd:FuncData),mg x = some (.ref f) /\ PySem.W.keepIn K (.ref f) = true /\ Binds K fd ps [] /\ (∃ ds,Vals dvs ds /\ Binds K fd ps ds) /\ FnOk P w K mg base (CXe P w) k f fd ps sp
section
variable {P:Program} {w:World} {K:PySem.W.Frag} {mg:Str -> Option Value} {base:Heap} {j k:Nat} {x:Str} {st:Stmt} {N ps:List Str} {dvs:List V} {sp:Sp}
theorem OkfX.mono (o:OkfX P w K mg base j x ps dvs sp) (h:j <= k):OkfX P w K mg base k x ps dvs sp :=
  let ⟨f,fd,a,b,c,e,d⟩:=o.ex; ⟨f,fd,a,b,c,e,d.mono h⟩
theorem OkfX.of (d:Df K mg x st ps) (S:FnScope N ps (defScope st)) (len:∀ vs H Q E,sp vs H Q E -> vs.length = ps.length)
    (hbody:∀ (f:Addr) (cdv:Value) (A:Around) (outer:List Env) (s:Shared) (H:Hp) (vs:List V) (Q:VK) (E:XK),Room k (A.deeper (envOfC x (defScope st) s.heap.objs.size f cdv)) -> sp vs H Q E ->
      ∃ t,PSs (cxOf (CXe P w) P w K mg base N x (defScope st) f cdv A outer s H E) (defBody st) t /\ t { nx:=fun _ H' => Q .non H',rt:=Q } (start N vs) H):OkfX P w K mg base (k + 1) x ps [] sp:=by
  obtain ⟨f,fd,⟨oc,od,dV,kV,doc,pm,an,cdv,ct,osl,rfl,lk,hcd⟩,kp,a,b⟩:=d.ex
  exact ⟨f,_,a,kp,b,⟨[],.nil,b⟩,fn_of lk hcd S len fun A outer s H vs Q E hr hsp => hbody f cdv A outer s H vs Q E hr hsp⟩
end
section
variable {X:Cx} {k:Nat} {x:Str} {ps:List Str} {dvs:List V} {sp:Sp} {p pos:Pos} {e:Expr} {es:List Expr} {t:TA} {E:XK}
theorem pe_callX (o:OkfX X.prog X.w X.K X.mg X.base k x ps dvs sp) (hr:Room k X.A) (hg:Gl X x) (hx:Passes (CXe X.prog X.w) X E) (ha:PA X (e :: es) t) (hdb:(x == ("__debug__":Str)) = false:=by decide)
    (he:starEach (e :: es) X.env = (false,eval e X.env) :: starEach es X.env:=by rfl) (hpl:(backTo pos (starEach es X.env)).any (·.1) = false:=by rfl) :
    PE X (.Call (.Name x p) (e :: es) [] pos) (tCall sp [] E t):=by
  obtain ⟨f,fd,a,b,c,_,d⟩:=o.ex
  exact pe_call d hr hg a b c .nil hx ha hdb he hpl
end
theorem PS.nox {X:Cx} {st:Stmt} {t:TS} (h:PS X.nox st t):PS X st t:=fun pins s σ H D I hw =>
  wpAny_mono (h pins s σ H D (I.wish _) hw) (fun _ _ q => q.unwish) fun _ _ z => False.elim z
structure Frsh (X:Cx) (pins:List (Addr×Obj)) (H:Hp) (a:Addr):Prop where
  h:H a = none
  s:X.s₀.heap.get? a = none
  l:a ≠ X.env.locals
  c:∀ n c,X.env.cells.lookup n = some c -> c ≠ a
  p:∀ p ∈ X.pn ++ pins,p.1 ≠ a
theorem Inv.kpt {X:Cx} {pins:List (Addr×Obj)} {σ:St} {H:Hp} {s:Shared} {xs:List Addr} {h':Heap} (I:Inv X pins σ H s) (k:Kpt (frs X.stack) xs s.heap h') (hx:∀ b ∈ xs,Frsh X pins H b):Inv X pins σ H { s with heap:=h' }:=by
  have neL:∀ b o,X.s₀.heap.get? b = some o -> b ≠ X.env.locals:=fun b o e => Nat.ne_of_lt (Nat.lt_of_lt_of_le (Heap.lt_size e) I.ok.above)
  have nX:∀ b o,X.s₀.heap.get? b = some o -> b ∉ xs:=fun b o e z => by rw [(hx b z).s] at e; cases e
  have nS:∀ b,b ≠ X.env.locals -> b ∉ X.fs -> b ∉ frs X.stack:=fun b h1 h2 z => (List.mem_cons.mp (I.stkSub b z)).elim h1 h2
  have lX:X.env.locals ∉ xs:=fun z => (hx _ z).l rfl
  have cX:∀ n c,X.env.cells.lookup n = some c -> c ∉ xs:=fun n c e z => (hx _ z).c n c e rfl
  have cellK:∀ x c,X.env.cells.lookup x = some c -> ∀ v,s.heap.IsCell c v -> h'.IsCell c v:=fun x c e v ⟨o,ho,hd⟩ => by
    obtain ⟨sl,q⟩:=k.there ho (cX x c e)
    exact ⟨_,q,hd⟩
  refine ⟨I.ok,I.os,I.bare,⟨fun b o e n hb hx => ?_,fun b o e n hb hx => ?_,I.base.free,fun b o e hx => ?_,I.base.tups,I.base.frzs,I.base.tbls⟩,?_,fun x c e => ?_,I.free,I.freeC,fun p hp => ?_,I.hok.kpt k (fun b hb => I.stkFree b hb) fun b hb => (hx b hb).h,I.len⟩
  . exact k.keep b o (I.base.keep b o e n hb hx) (nS b (neL b o e) hb) (nX b o e)
  . obtain ⟨sl,q⟩:=I.base.slot b o e n hb hx
    obtain ⟨sl',q'⟩:=k.there q (nX b o e)
    exact ⟨sl',q'⟩
  . obtain ⟨o',q⟩:=I.base.there b o e hx
    obtain ⟨sl',q'⟩:=k.there q (nX b o e)
    exact ⟨_,q'⟩
  . obtain ⟨m,⟨o,es,ep,ho,r⟩,hl⟩:=I.loc
    obtain ⟨sl,q⟩:=k.there ho lX
    refine ⟨m,⟨_,es,ep,q,r⟩,fun i x v e1 e2 e3 => ?_⟩
    obtain ⟨u,rv,l⟩:=hl i x v e1 e2 e3
    refine ⟨u,rv,?_⟩
    rcases l with l | ⟨kk,c,e,z⟩
    . exact .inl l
    . exact .inr ⟨kk,c,e,cellK x c e _ z⟩
  . obtain ⟨v,z⟩:=I.cell x c e
    exact ⟨v,cellK x c e v z⟩
  . obtain ⟨e,n,ne,nf,d⟩:=I.pin p hp
    exact ⟨k.keep p.1 p.2 e (nS _ ne nf) (fun z => (hx _ z).p p hp rfl),n,ne,nf,d⟩
theorem Inv.frsh {X:Cx} {pins:List (Addr×Obj)} {σ:St} {H H':Hp} {s:Shared} {a:Addr} (I:Inv X pins σ H s) (hex:X.ex = []) (e:s.heap.get? a = none) (h:H' a = none):Frsh X pins H' a where
  h:=h
  s:=by
    have u:Un X.fs [] X.H₀ H X.s₀.heap s.heap:=hex ▸ I.base
    exact u.was e
  l:=fun z => by
    obtain ⟨m,⟨o,es,ep,ho,r⟩,_⟩:=I.loc
    rw [← z,e] at ho; cases ho
  c:=fun n c q z => by
    obtain ⟨v,o,ho,hd⟩:=I.cell n c q
    rw [z,e] at ho; cases ho
  p:=fun p hp z => by
    obtain ⟨q,_⟩:=I.pin p hp
    rw [z,e] at q; cases q
noncomputable def caught (X:Cx) (pins:List (Addr×Obj)) (σ:St) (E:XK) (e:Value) (s':Shared):Prop:=∃ x T C H',e = .ref x /\ Inv X pins σ H' s' /\ Fly x T C s'.heap /\ Frsh X pins H' x /\ Frsh X pins H' T /\ E (.ref C) none H'
theorem caught_of {X:Cx} {pins:List (Addr×Obj)} {σ:St} {H:Hp} {s s':Shared} {E:XK} {e:Value} (hex:X.ex = []) (I:Inv X pins σ H s) (h:CXe X.prog X.w X.stack H s E e s'):caught X pins σ E e s':=by
  obtain ⟨x,T,C,H',rfl,ho,hg,un,hok,nx,nT,hx,hT,fl,q⟩:=h
  exact ⟨x,T,C,H',rfl,I.call' (ch:=[]) ho un hok hg (fun b z => absurd z (by simp)),fl,I.frsh hex nx hx,I.frsh hex nT hT,q⟩
noncomputable abbrev TEX:=St -> Hp -> VK -> XK -> Prop
noncomputable abbrev TX:=Ends -> XK -> St -> Hp -> Prop
noncomputable def PEX (X:Cx) (e:Expr) (t:TEX):Prop :=
  ∀ (pins:List (Addr×Obj)) (s:Shared) (σ:St) (H:Hp) (Q:VK) (E:XK),Inv X pins σ H s -> t σ H Q E -> wpAny (model X.prog X.w) X.A (eval e X.env) (EP X pins σ Q) (caught X pins σ E) s
noncomputable def PX (X:Cx) (st:Stmt) (t:TX):Prop :=
  ∀ (pins:List (Addr×Obj)) (s:Shared) (σ:St) (H:Hp) (D:Ends) (E:XK),Inv X pins σ H s -> t D E σ H -> wpAny (model X.prog X.w) X.A (exec st X.env) (SP X pins D) (caught X pins σ E) s
noncomputable def tCallX (sp:Sp) (dvs:List V) (t:TA):TEX:=fun σ H Q E => t σ H fun vs H1 => sp (vs ++ dvs) H1 Q E
section
variable {X:Cx} {k:Nat} {f:Addr} {fd:FuncData} {x:Str} {ps:List Str} {dvs:List V} {ds:List Value} {sp:Sp} {p pos:Pos} {e:Expr} {es:List Expr} {t:TA} {E:XK}
theorem pex_run (F:FnOk X.prog X.w X.K X.mg X.base (CXe X.prog X.w) k f fd ps sp) (hex:X.ex = []) (hxe:∀ e s,X.xe e s -> False) (hr:Room k X.A) (hg:Gl X x) (hm:X.mg x = some (.ref f)) (hk:PySem.W.keepIn X.K (.ref f) = true) (hb:Binds X.K fd ps ds) (hd:Vals dvs ds)
    (ha:PA X (e :: es) t) (hdb:(x == ("__debug__":Str)) = false) (he:starEach (e :: es) X.env = (false,eval e X.env) :: starEach es X.env) (hpl:(backTo pos (starEach es X.env)).any (·.1) = false) :
    PEX X (.Call (.Name x p) (e :: es) [] pos) (tCallX sp dvs t):=by
  intro pins s σ H Q E I h
  refine wpAny_Call_Name_kw (ld_glob I hg hm ?_ hdb)
  refine PySem.W.callWith_K (h₀:=X.base) I.ok.mod.kin hk (wpAny_mono (ha pos pins s σ H _ I h) (fun us s1 ⟨vs,H1,I1,r,q⟩ => ⟨I1.kIn,?_⟩) fun e s z => (hxe e s z).elim) he hpl
  have r2:Vals (vs ++ dvs) (us ++ ds):=r.append hd
  have hl:(us ++ ds).length = ps.length:=by rw [← r2.length]; exact F.len _ _ _ _ q
  refine wpAny_call (codeAny_mono (F.run X.A X.stack s1 H1 ⟨us,[]⟩ (us ++ ds) (vs ++ dvs) Q E hr I1.env0 (hb s1 us I1.kIn hl) r2 q) fun r s' hq => ?_)
  cases r with
  | error e => exact caught_of hex I1 hq
  | ok fl =>
    cases fl with
    | ret u => exact I1.after hq
    | next => exact False.elim hq
    | brk => exact False.elim hq
    | cont => exact False.elim hq
theorem pex_call (o:OkfX X.prog X.w X.K X.mg X.base k x ps dvs sp) (hex:X.ex = []) (hxe:∀ e s,X.xe e s -> False) (hr:Room k X.A) (hg:Gl X x) (ha:PA X (e :: es) t) (hdb:(x == ("__debug__":Str)) = false:=by decide)
    (he:starEach (e :: es) X.env = (false,eval e X.env) :: starEach es X.env:=by rfl) (hpl:(backTo pos (starEach es X.env)).any (·.1) = false:=by rfl) :
    PEX X (.Call (.Name x p) (e :: es) [] pos) (tCallX sp [] t):=by
  obtain ⟨f,fd,a,b,c,_,d⟩:=o.ex
  exact pex_run d hex hxe hr hg a b c .nil ha hdb he hpl
end
end L2
namespace L2
open PySem PySem.Spec PyProof.Rows
section
variable {X:Cx} {e:Expr} {te:TEX} {pos:Pos}
noncomputable def xDrop (te:TEX):TX:=fun D E σ H => te σ H (fun _ H1 => D.nx σ H1) E
end
noncomputable abbrev Cx.hld (X:Cx) (x:Addr):Cx:={ X with A:=X.A.mark (some (.ref x)),calm:=false,xe:=fun _ _ => False }
section
variable {X:Cx} {pins:List (Addr×Obj)} {σ:St} {H:Hp} {s:Shared} {x:Addr}
theorem Inv.hld (I:Inv X pins σ H s) (x:Addr):Inv (X.hld x) pins σ H s :=
  ⟨⟨I.ok.mod,I.ok.kind,I.ok.glob,I.ok.blt,I.ok.above,I.ok.inj,I.ok.has,I.ok.cab,(fun z => nomatch z),I.ok.frames,I.ok.stk,I.ok.exf,I.ok.bs,I.ok.bsz,I.ok.noex,I.ok.exfs,I.ok.funs,I.ok.frf⟩,I.os,I.bare,I.base,I.loc,I.cell,I.free,I.freeC,I.pin,I.hok,I.len⟩
theorem Inv.unhld (hd:X.calm = true -> X.A.handled = none) (I:Inv (X.hld x) pins σ H s):Inv X pins σ H s :=
  ⟨⟨I.ok.mod,I.ok.kind,I.ok.glob,I.ok.blt,I.ok.above,I.ok.inj,I.ok.has,I.ok.cab,hd,I.ok.frames,I.ok.stk,I.ok.exf,I.ok.bs,I.ok.bsz,I.ok.noex,I.ok.exfs,I.ok.funs,I.ok.frf⟩,I.os,I.bare,I.base,I.loc,I.cell,I.free,I.freeC,I.pin,I.hok,I.len⟩
theorem goes_ok {M:Model} {A:Around} {E:Value -> Shared -> Prop} {i:Nat} {n:Str} {pos:Pos} {Q:Unit -> Shared -> Prop} (I:Inv X pins σ H s) (hN:X.N.Nodup) (hi:X.N[i]? = some n) (hl:X.env.scope.names.lookup n = some .local)
    (h:∀ s',Inv X pins (σ.set i none) H s' -> Q () s'):wpAny M A (do bindName X.env n .none; unbindBehindTheSuite X.env n pos) Q E s:=by
  obtain ⟨m,hn,hv⟩:=id I.loc
  have hcls:(X.env.scope.kind == .class || (X.env.scope.kind == .module && X.env.locals != X.env.globals)) = false:=by rw [I.ok.kind]; rfl
  refine wpAny_nameGoes_keeps hl hn hcls fun h' v hn' hs => h _ ?_
  have old:∀ b o,X.s₀.heap.get? b = some o -> b ≠ X.env.locals:=fun b o e => Nat.ne_of_lt (Nat.lt_of_lt_of_le (Heap.lt_size e) I.ok.above)
  refine ⟨I.ok,I.os,I.bare,⟨fun b o e n hb hx => (hs.2 b (old b o e)).trans (I.base.keep b o e n hb hx),fun b o e n hb hx => ?_,I.base.free,fun b o e hx => ?_,I.base.tups,I.base.frzs,I.base.tbls⟩,⟨_,hn',fun j y v' e1 e2 e3 => ?_⟩,fun y c e => ?_,I.free,I.freeC,fun p hp => ?_,?_,by simpa using I.len⟩
  . obtain ⟨sl,e1⟩:=I.base.slot b o e n hb hx
    exact ⟨sl,(hs.2 b (old b o e)).trans e1⟩
  . obtain ⟨o',e1⟩:=I.base.there b o e hx
    exact ⟨o',(hs.2 b (old b o e)).trans e1⟩
  . have hj:j ≠ i:=fun z => by
      rw [z] at e2
      by_cases hi':i < σ.length
      . rw [List.getElem?_set_self hi'] at e2; cases e2
      . rw [List.getElem?_eq_none (by rw [List.length_set]; omega)] at e2; cases e2
    rw [List.getElem?_set_ne (Ne.symm hj)] at e2
    obtain ⟨u',r',q⟩:=hv j y v' e1 e2 e3
    refine ⟨u',r',?_⟩
    rcases q with ⟨k,e⟩ | ⟨k,c,e,z⟩
    . refine .inl ⟨k,?_⟩
      have:y ≠ n:=fun e => hj (nodup_ix hN e1 (e ▸ hi))
      show (if y = n then v else m y) = some u'
      rw [if_neg this]; exact e
    . exact .inr ⟨k,c,e,z.sameBut hs (I.cne y c e)⟩
  . obtain ⟨w',z⟩:=I.cell y c e
    exact ⟨w',z.sameBut hs (I.cne y c e)⟩
  . obtain ⟨e,n,ne,nf,d⟩:=I.pin p hp
    exact ⟨(hs.2 p.1 ne).trans e,n,ne,nf,d⟩
  . intro b ob e
    refine (I.hok b ob e).stay (fun c w' hc q => (hs.2 c ?_).trans q) (fun _ q => q) fun _ _ q => q
    rintro rfl
    rcases hc with rfl | hc
    . rw [I.free] at e; cases e
    . rw [I.free] at hc; cases hc
theorem Inv.track {a:Addr} {o:HO} (I:Inv X pins σ H s) (fr:Frsh X pins H a) (new:ObjOk X.prog X.w (upd H a o) s.heap a o):Inv X pins σ (upd H a o) s:=by
  refine ⟨I.ok,I.os,I.bare,I.base.track fr.h fr.s,I.loc,I.cell,?_,fun x c e => ?_,fun p hp => ?_,I.hok.track fr.h new,I.len⟩
  . rw [upd_ne (Ne.symm fr.l)]; exact I.free
  . rw [upd_ne (fr.c x c e)]; exact I.freeC x c e
  . obtain ⟨e,n,r⟩:=I.pin p hp
    exact ⟨e,by rw [upd_ne (fr.p p hp)]; exact n,r⟩
end
noncomputable def tTry (K:PySem.W.Frag) (CT:Addr) (i:Nat) (tb:TX) (ts:Addr -> TS):TS:=fun D σ H => tb D (fun cv _ H' => ∃ C,cv = .ref C /\ PySem.W.exmOne K (.ref C) (.ref CT) = some true /\
  ∀ x,H' x = none -> ts x ⟨fun σ' H2 => D.nx (σ'.set i none) H2,D.rt,fun σ' H2 => D.bk (σ'.set i none) H2,fun σ' H2 => D.ct (σ'.set i none) H2⟩ (σ.set i (some (.ref x))) (upd H' x (excO x C))) σ H
section
variable {X:Cx}
theorem ps_try {CT:Addr} {nc n:Str} {i:Nat} {st s0:Stmt} {suite:List Stmt} {tb:TX} {ts:Addr -> TS} {np hp pos:Pos} (hex:X.ex = []) (hst:X.stack = X.env :: X.outer) (hfr:X.env.frame = some X.env.locals)
    (hg:Gl X nc) (hm:X.mg nc = some (.ref CT)) (hN:X.N.Nodup) (hi:X.N[i]? = some n) (hl:X.env.scope.names.lookup n = some .local) (hb:PX X st tb) (hs:∀ x,PSs (X.hld x) (s0 :: suite) (ts x)) (hd:(nc == ("__debug__":Str)) = false:=by decide) :
    PS X (.Try [st] [.ExceptHandler (some (.Name nc np)) (some n) (s0 :: suite) hp] [] [] pos) (tTry X.K CT i tb ts):=by
  intro pins s σ H D I h
  refine wpAny_Try_except (wpAny_execs_cons (wpAny_mono (hb pins s σ H D _ I h) (fun f s1 q => ?_) fun e s1 q => ?_))
  . cases f with
    | next => exact wpAny_execs_nil (wpAny_execs_nil q)
    | ret v => exact q
    | brk => exact q
    | cont => exact q
  . obtain ⟨x,T,C,H',rfl,I1,fl,fx,fT,C',hC,hm1,q⟩:=q
    cases hC
    have mov:∀ {s2:Shared} {h2:Heap} {T1 T2:Addr},Inv X pins σ H' s2 -> Frsh X pins H' T1 -> (T2 = T1 ∨ s2.heap.get? T2 = none) -> Kpt (frs X.stack) [x,T1] s2.heap h2 -> Inv X pins σ H' { s2 with heap:=h2 } /\ Frsh X pins H' T2:=fun {s2 h2 T1 T2} J f1 z k => by
      refine ⟨J.kpt k fun b hb => ?_,?_⟩
      . rcases List.mem_cons.mp hb with e | e
        . rw [e]; exact fx
        . rw [List.mem_singleton.mp e]; exact f1
      . rcases z with z | z
        . rw [z]; exact f1
        . exact J.frsh hex z (J.hok.none_of z)
    have hfr':X.A.frames = some (X.env :: X.outer):=hst ▸ I1.ok.frames
    have hF1:s1.heap.FunFrames X.base (X.env :: X.outer):=hst ▸ I1.stack
    refine fly_note hfr' hfr hF1 fl fun h2 T2 fl2 z2 k2 => ?_
    obtain ⟨I2,fT2⟩:=mov I1 fT z2 (hst ▸ k2)
    refine wpAny_handleBy_cons (codeAny_handlers_test (ld_glob (I2.hld x) hg hm ?_ hd)) (by intro q; cases q)
    refine (PySem.W.exm_one I2.kIn (fl2.exR.kitR.ty _) hm1).here ?_
    refine codeAny_handlers_suite_as ?_
    refine fly_again (l:=X.stack) fl2 fun h3 fl3 k3 => ?_
    obtain ⟨I3,_⟩:=mov I2 fT2 (.inl rfl) k3
    have I4:=I3.track fx (excO_ok (C:=C) fl3.exR)
    refine store_ok (v:=.ref x) I4 hN hi (.inl hl) rfl (fun s5 I5 => ?_) (.inr hl)
    refine wpAny_mono (hs x pins s5 _ _ _ (I5.hld x) (q x fx.h)) (fun f s6 q6 => ?_) fun _ _ z => z.elim
    cases f with
    | next =>
      obtain ⟨σ',H2,I6,q6⟩:=q6
      exact goes_ok (I6.unhld I.ok.hd) hN hi hl fun s7 I7 => ⟨_,H2,I7,q6⟩
    | brk =>
      obtain ⟨σ',H2,I6,q6⟩:=q6
      exact goes_ok (I6.unhld I.ok.hd) hN hi hl fun s7 I7 => ⟨_,H2,I7,q6⟩
    | cont =>
      obtain ⟨σ',H2,I6,q6⟩:=q6
      exact goes_ok (I6.unhld I.ok.hd) hN hi hl fun s7 I7 => ⟨_,H2,I7,q6⟩
    | ret u =>
      obtain ⟨v,σ',H2,I6,r,q6⟩:=q6
      exact goes_ok (I6.unhld I.ok.hd) hN hi hl fun s7 I7 => ⟨v,_,H2,I7,r,q6⟩
end
end L2
namespace L2
open PySem PySem.Spec PyProof.Rows
section
variable {X:Cx} {e:Expr} {te:TEX} {pos:Pos}
noncomputable def xSet (te:TEX) (i:Nat):TX:=fun D E σ H => te σ H (fun v H1 => D.nx (σ.set i (some v)) H1) E
theorem px_set {i:Nat} {x:Str} {pos':Pos} (hN:X.N.Nodup) (hi:X.N[i]? = some x) (hx:Loc X.env.scope x) (he:PEX X e te) (hs:swapsWith e (some (.Name x pos')) pos.line X.env = pure false:=by rfl)
    (hf:X.fn x = true ∨ X.env.scope.names.lookup x = some .local:=by first | exact .inl rfl | exact .inr rfl | assumption):PX X (.Assign [.Name x pos'] e pos) (xSet te i):=by
  intro pins s σ H D E I h
  refine wpAny_Assign_Name (thn (he pins s σ H _ E I h) fun v s1 ⟨y,H1,I1,r1,q1⟩ => ?_) hs
  exact store_ok I1 hN hi hx r1 (fun s2 I2 => ⟨_,H1,I2,q1⟩) hf
noncomputable def xRet (te:TEX):TX:=fun D E σ H => te σ H D.rt E
end
section
variable {X:Cx}
end
end L2
namespace L2
open PySem PySem.Spec PyProof.Rows
section
variable {prog:Program} {w:World} {A:Around} {E:Value -> Shared -> Prop} {s:Shared}
end
noncomputable def HasX (y:Addr) (H:Hp):Prop:=∃ C,H y = some (excO y C)
noncomputable def ItrH (y:Addr) (lo:Int) (n:Nat):It:=⟨fun i _ => i < n,fun i H x H' => H' = H /\ x = .int (lo + i),fun i H => n <= i /\ HasX y H⟩
section
variable {X:Cx} {tg:Expr} {y:Addr}
noncomputable def iRng1H (y:Addr) (ta:TA):TI:=fun σ H R => ta σ H fun vs H1 => ∃ j:Int,vs = [.int j] /\ -(2 ^ 62) <= j /\ j < 2 ^ 62 /\ R (ItrH y 0 j.toNat) H1
variable {scope:Scope} {tn names:List Str} {is:List Nat} {elt iter:Expr} {ifs:List Expr} {pos:Pos} {wi:TI} {te:TE} {tc:Option TT} {g:TG}
end
section
variable {te:TE} {Q:VK} {H:Hp} {caps:St} {y:Addr}
end
structure RoomH (k:Nat) (A:Around):Prop where
  dp:A.depth + 3 * k + 5 < recursionLimit
  un:A.units + 16 * k + 200 < cLine
theorem Room.h {k:Nat} {A:Around} (r:Room k A) (v:Option Value):RoomH k (A.mark v):=⟨r.dp,r.un⟩
theorem RoomH.mono {j k:Nat} {A:Around} (r:RoomH k A) (h:j <= k):RoomH j A:=⟨by have:=r.dp; omega,by have:=r.un; omega⟩
theorem RoomH.deeper {k:Nat} {A:Around} (r:RoomH (k + 1) A) (env:Env):RoomH k (A.deeper env) :=
  ⟨by have:=r.dp; show A.depth + 1 + 3 * k + 5 < _; omega,by have:=r.un; show A.units + 3 + 16 * k + 200 < _; omega⟩
structure FnH (P:Program) (w:World) (K:PySem.W.Frag) (mg:Str -> Option Value) (base:Heap) (k:Nat) (f:Addr) (fd:FuncData) (ps:List Str) (sp:Addr -> Sp):Prop where
  len:∀ y vs H Q E,sp y vs H Q E -> vs.length = ps.length
  run:∀ (y:Addr) (A:Around) (outer:List Env) (s:Shared) (H:Hp) (args:Args) (us:List Value) (vs:List V) (Q:VK),RoomH k A -> A.handled = some (.ref y) -> Env0 P w K mg base A outer s H -> BindsTo s fd args (ps.zip us) -> Vals vs us -> sp y vs H Q E0 ->
    codeAny (model P w) A (.call (.ref f) args) (CR CX0 outer P w H s Q E0) s
noncomputable abbrev cxH (P:Program) (w:World) (K:PySem.W.Frag) (mg:Str -> Option Value) (base:Heap) (N:List Str) (qual:Str) (scope:Scope) (f:Addr) (cd:Value) (A:Around) (outer:List Env) (s:Shared) (H:Hp):Cx :=
  { cxOf CX0 P w K mg base N qual scope f cd A outer s H E0 with calm:=false,xe:=fun _ _ => False }
theorem inv_h {P:Program} {w:World} {K:PySem.W.Frag} {mg:Str -> Option Value} {base:Heap} {N:List Str} {qual:Str} {scope:Scope} {f:Addr} {cd:Value} {A:Around} {outer:List Env} {s:Shared} {H H1:Hp} {pins:List (Addr×Obj)} {σ:St} {s1:Shared}
    (fr:(A.deeper (envOfC qual scope s.heap.objs.size f cd)).frames = some (envOfC qual scope s.heap.objs.size f cd :: outer)) (I:Inv (cxOf CX0 P w K mg base N qual scope f cd { A with handled:=none } outer s H E0) pins σ H1 s1):Inv (cxH P w K mg base N qual scope f cd A outer s H) pins σ H1 s1 :=
  ⟨⟨I.ok.mod,I.ok.kind,I.ok.glob,I.ok.blt,I.ok.above,I.ok.inj,I.ok.has,I.ok.cab,(fun z => nomatch z),fr,I.ok.stk,I.ok.exf,I.ok.bs,I.ok.bsz,I.ok.noex,I.ok.exfs,I.ok.funs,I.ok.frf⟩,I.os,I.bare,I.base,I.loc,I.cell,I.free,I.freeC,I.pin,I.hok,I.len⟩
theorem fn_ofH {P:Program} {w:World} {K:PySem.W.Frag} {mg:Str -> Option Value} {base:Heap} {k:Nat} {f:Addr} {name qual:Str} {params:Arguments} {body:List Stmt} {scope:Scope} {dV kV doc pm cdv ct oc:Value} {an od:Option Addr}
    {osl:Array (Option Value)} {N ps:List Str} {sp:Addr -> Sp} (lk:K.lookup f = some ⟨oc,od,.func (PySem.W.fnOf name qual params body scope dV kV doc pm an cdv ct),osl⟩) (hcd:PySem.W.codeIn K cdv qual = true) (S:FnScope N ps scope)
    (len:∀ y vs H Q E,sp y vs H Q E -> vs.length = ps.length)
    (hbody:∀ (y:Addr) (A:Around) (outer:List Env) (s:Shared) (H:Hp) (vs:List V) (Q:VK),RoomH k (A.deeper (envOfC qual scope s.heap.objs.size f cdv)) -> A.handled = some (.ref y) -> sp y vs H Q E0 ->
      ∃ t,PSs (cxH P w K mg base N qual scope f cdv A outer s H) body t /\ t { nx:=fun _ H' => Q .non H',rt:=Q } (start N vs) H) :
    FnH P w K mg base (k + 1) f (PySem.W.fnOf name qual params body scope dV kV doc pm an cdv ct) ps sp:=by
  refine ⟨len,fun y A outer s H args us vs Q hr hh e0 hb r hsp => ?_⟩
  have hl:=len _ _ _ _ _ hsp
  have KX:K.In s.heap:=e0.mod.kin.keeps fun b o e => (e0.bs b o e).1
  have lim:s.heap.NoLimit:=e0.mod.nolimit.keeps fun b o e => (e0.bs b o e).1
  have hkind:∀ y ∈ ps.zip us,scope.names.lookup y.1 = some .local ∨ (scope.names.lookup y.1 = some .cell /\ ((cellsFrom (s.heap.objs.size + 1) scope.names []).lookup y.1).isSome = true):=fun ⟨n,v⟩ hy => by
    rcases S.par n (List.of_mem_zip hy).1 with q | q
    . exact .inl q
    . exact .inr ⟨q,PySem.W.cellsFrom_some _ _ _ (.inl q)⟩
  refine codeAny_call_function (by have:=hr.dp; omega) (KX _ _ lk) rfl S.co S.gen rfl (PySem.W.codeRec_of KX hcd) (hb _ _ _ _ ?_)
  refine wpAny_newFunctionEnv_cells S.kind hkind fun env he s1 x => ?_
  subst he
  refine ⟨lim.keeps x.toInCall.keep,codeAny_func ?_⟩
  obtain ⟨t,ht,hq⟩:=hbody y A outer s H vs Q (hr.deeper _) hh hsp
  have e0':Env0 P w K mg base { A with handled:=none } outer s H:=⟨e0.frames,e0.mod,e0.bs,e0.bsz,e0.funs,e0.frf,e0.hok,e0.bare⟩
  have I:Inv (cxH P w K mg base N qual scope f cdv A outer s H) [] (start N vs) H s1:=inv_h (Around.frames_deeper e0.frames) (inv_start S rfl e0' hl r x)
  refine wpAny_mono (ht [] s1 (start N vs) H _ I hq) (fun fl s' hs => ?_) fun e s' hs => hs.elim
  have fin:∀ {σ':St} {H':Hp} {v:V} {u:Value},Inv (cxH P w K mg base N qual scope f cdv A outer s H) [] σ' H' s' -> RelV v u -> Q v H' -> CE outer P w H s Q u s' :=
    fun {σ' H' v u} J rv q => ⟨v,H',J.os,J.bare,J.base,J.hok,rv,q⟩
  cases fl with
  | ret u =>
    obtain ⟨v,σ',H',J,rv,q⟩:=hs
    exact fin J rv q
  | next =>
    obtain ⟨σ',H',J,q⟩:=hs
    exact fin (v:=V.non) (u:=Value.none) J rfl q
  | brk =>
    obtain ⟨_,_,_,q⟩:=hs
    exact False.elim q
  | cont =>
    obtain ⟨_,_,_,q⟩:=hs
    exact False.elim q
structure OkfH (P:Program) (w:World) (K:PySem.W.Frag) (mg:Str -> Option Value) (base:Heap) (k:Nat) (x:Str) (ps:List Str) (sp:Addr -> Sp):Prop where
  ex:∃ (f:Addr) (fd:FuncData),mg x = some (.ref f) /\ PySem.W.keepIn K (.ref f) = true /\ Binds K fd ps [] /\ FnH P w K mg base k f fd ps sp
theorem OkfH.mono {P:Program} {w:World} {K:PySem.W.Frag} {mg:Str -> Option Value} {base:Heap} {j k:Nat} {x:Str} {ps:List Str} {sp:Addr -> Sp} (o:OkfH P w K mg base j x ps sp) (h:j <= k):OkfH P w K mg base k x ps sp :=
  let ⟨f,fd,a,b,c,d⟩:=o.ex; ⟨f,fd,a,b,c,d.len,fun y A outer s H args us vs Q hr => d.run y A outer s H args us vs Q (hr.mono h)⟩
theorem OkfH.of {P:Program} {w:World} {K:PySem.W.Frag} {mg:Str -> Option Value} {base:Heap} {k:Nat} {x:Str} {st:Stmt} {N ps:List Str} {sp:Addr -> Sp} (d:Df K mg x st ps) (S:FnScope N ps (defScope st)) (len:∀ y vs H Q E,sp y vs H Q E -> vs.length = ps.length)
    (hbody:∀ (y f:Addr) (cdv:Value) (A:Around) (outer:List Env) (s:Shared) (H:Hp) (vs:List V) (Q:VK),RoomH k (A.deeper (envOfC x (defScope st) s.heap.objs.size f cdv)) -> A.handled = some (.ref y) -> sp y vs H Q E0 ->
      ∃ t,PSs (cxH P w K mg base N x (defScope st) f cdv A outer s H) (defBody st) t /\ t { nx:=fun _ H' => Q .non H',rt:=Q } (start N vs) H):OkfH P w K mg base (k + 1) x ps sp:=by
  obtain ⟨f,fd,⟨oc,od,dV,kV,doc,pm,an,cdv,ct,osl,rfl,lk,hcd⟩,kp,a,b⟩:=d.ex
  exact ⟨f,_,a,kp,b,fn_ofH lk hcd S len fun y A outer s H vs Q hr hh hsp => hbody y f cdv A outer s H vs Q hr hh hsp⟩
noncomputable def tCallH (sp:Sp) (t:TA):TE:=fun σ H Q => t σ H fun vs H1 => sp vs H1 Q E0
theorem r_callH {sp:Sp} {t:TA} {σ:St} {H:Hp} {Q:VK} (k:t σ H fun vs H1 => sp vs H1 Q E0):tCallH sp t σ H Q:=k
section
variable {X:Cx} {k:Nat} {x:Str} {ps:List Str} {sp:Addr -> Sp} {p pos:Pos} {e:Expr} {es:List Expr} {t:TA} {y:Addr}
end
end L2
namespace L2
open PySem PySem.Spec PyProof.Rows
noncomputable def XrE (K:PySem.W.Frag) (C:Addr):Prop:=∃ (newId Bn inN:String) (bmN:List Value),PySem.W.excIn K C bmVE newId = true /\ ExcBaseFacts Bn newId inN bmN /\ bmVE.contains (.type Bn) = true
theorem XrE.ve {K:PySem.W.Frag} {C:Addr} (h:PySem.W.excIn K C bmVE "ValueError.__new__" = true):XrE K C:=⟨_,_,_,_,h,F.excBase_ValueError,by decide⟩
theorem XrE.ex {K:PySem.W.Frag} {C:Addr} (h:PySem.W.excIn K C bmVE "Exception.__new__" = true):XrE K C:=⟨_,_,_,_,h,F.excBase_Exception,by decide⟩
theorem bt_ValueError:bootBuiltins "ValueError" = some (.type "ValueError"):=by decide +kernel
theorem RoomH.units {k:Nat} {A:Around} (r:RoomH k A):A.units + 64 < cLine:=by have:=r.un; omega
section
variable {X:Cx}
theorem ps_raiseR {E:XK} {C:Addr} {n:Str} {e:Expr} {es:List Expr} {t:TA} {np cpos pos:Pos} (hr:Raises X E) (hc:X.calm = true) (hg:Gl X n) (hm:X.mg n = some (.ref C)) (hx:XrE X.K C) (ha:PA X (e :: es) t)
    (hd:(n == ("__debug__":Str)) = false:=by decide) (he:starEach (e :: es) X.env = (false,eval e X.env) :: starEach es X.env:=by rfl) (hpl:(backTo cpos (starEach es X.env)).any (·.1) = false:=by rfl) :
    PS X (.Raise (some (.Call (.Name n np) (e :: es) [] cpos)) none pos) (tRaise C E t):=by
  obtain ⟨newId,Bn,inN,bmN,h1,h2,h3⟩:=hx
  exact ps_raise hr hc hg hm h1 h2 h3 ha hd he hpl
noncomputable def rIsX (K:PySem.W.Frag):List V -> Hp -> VK -> Prop:=fun xs H Q => ∃ y C v c b,xs = [.ref y,v] /\ H y = some (excO y C) /\ XCls K C /\ RelV v c /\ PySem.W.kitOne K (.ref C) c = some b /\ Q (.bl b) H
theorem call_isX:CallR X (.builtin "isinstance") (rIsX X.K):=by
  intro pins s σ H xs us Q I r h
  obtain ⟨y,C,v,c,b,rfl,hy,z,rc,e,q⟩:=h
  obtain ⟨u,u',rfl,ru,rv⟩:=Vals.two r
  obtain rfl:u = Value.ref y:=ru
  have ec:u' = c:=by
    cases v with
    | ref a => exact rv.trans rc.symm
    | ty n => exact rv.trans rc.symm
    | non => exact rv.trans rc.symm
    | bl a => exact rv.trans rc.symm
    | int _ => obtain ⟨t,rfl⟩:=rc; simp [PySem.W.kitOne,PySem.W.kitCls] at e
    | str _ => obtain ⟨t,rfl⟩:=rc; simp [PySem.W.kitOne,PySem.W.kitCls] at e
    | byt _ => obtain ⟨t,rfl⟩:=rc; simp [PySem.W.kitOne,PySem.W.kitCls] at e
    | flt _ => obtain ⟨t,rfl⟩:=rc; simp [PySem.W.kitOne,PySem.W.kitCls] at e
  subst ec
  exact PySem.W.kia_one (kitx_exc z) I.kIn (I.hok y _ hy).1.kitR e (by intro q; cases q) fun tk => ⟨.bl b,H,I.tok tk,rfl,q⟩
end
section
variable {K:PySem.W.Frag} {σ:St} {H:Hp} {Q:VK} {D:Ends} {E:XK}
theorem r_isXc {y C c:Addr} {b:Bool} (hy:H y = some (excO y C)) (z:XCls K C) (e:PySem.W.kitOne K (.ref C) (.ref c) = some b) (k:Q (.bl b) H):rIsX K [.ref y,.ref c] H Q:=⟨y,C,_,_,b,rfl,hy,z,rfl,e,k⟩
theorem r_isXt {y C:Addr} {T:String} {b:Bool} (hy:H y = some (excO y C)) (z:XCls K C) (e:PySem.W.kitOne K (.ref C) (.type T) = some b) (k:Q (.bl b) H):rIsX K [.ref y,.ty T] H Q:=⟨y,C,_,_,b,rfl,hy,z,rfl,e,k⟩
noncomputable def tryE (K:PySem.W.Frag) (CT:Addr) (i:Nat) (ts:Addr -> TS) (D:Ends) (σ:St):XK:=fun cv _ H' => ∃ C,cv = .ref C /\ PySem.W.exmOne K (.ref C) (.ref CT) = some true /\
  ∀ x,H' x = none -> ts x ⟨fun σ' H2 => D.nx (σ'.set i none) H2,D.rt,fun σ' H2 => D.bk (σ'.set i none) H2,fun σ' H2 => D.ct (σ'.set i none) H2⟩ (σ.set i (some (.ref x))) (upd H' x (excO x C))
theorem r_try {CT:Addr} {i:Nat} {tb:TX} {ts:Addr -> TS} (k:tb D (tryE K CT i ts D σ) σ H):tTry K CT i tb ts D σ H:=k
theorem r_tryE {C CT:Addr} {i:Nat} {ts:Addr -> TS} {o:Option Addr} (e:PySem.W.exmOne K (.ref C) (.ref CT) = some true)
    (k:∀ x,H x = none -> ts x ⟨fun σ' H2 => D.nx (σ'.set i none) H2,D.rt,fun σ' H2 => D.bk (σ'.set i none) H2,fun σ' H2 => D.ct (σ'.set i none) H2⟩ (σ.set i (some (.ref x))) (upd H x (excO x C))):tryE K CT i ts D σ (.ref C) o H:=⟨C,rfl,e,k⟩
theorem r_xdrop {te:TEX} (k:te σ H (fun _ H1 => D.nx σ H1) E):xDrop te D E σ H:=k
theorem r_xset {te:TEX} {i:Nat} (k:te σ H (fun v H1 => D.nx (σ.set i (some v)) H1) E):xSet te i D E σ H:=k
theorem r_xret {te:TEX} (k:te σ H D.rt E):xRet te D E σ H:=k
theorem r_callXD {sp:Sp} {dvs:List V} {t:TA} (k:t σ H fun vs H1 => sp (vs ++ dvs) H1 Q E):tCallX sp dvs t σ H Q E:=k
theorem r_callX {sp:Sp} {t:TA} (k:t σ H fun vs H1 => sp vs H1 Q E):tCallX sp [] t σ H Q E:=by
  have e:(fun (vs:List V) H1 => sp (vs ++ []) H1 Q E) = fun vs H1 => sp vs H1 Q E:=by
    funext vs H1
    rw [List.append_nil]
  show t σ H fun vs H1 => sp (vs ++ []) H1 Q E
  rw [e]; exact k
theorem r_rng1H {y:Addr} {ta:TA} {R:It -> Hp -> Prop} (k:ta σ H fun vs H1 => ∃ j:Int,vs = [.int j] /\ -(2 ^ 62) <= j /\ j < 2 ^ 62 /\ R (ItrH y 0 j.toNat) H1):iRng1H y ta σ H R:=k
end
theorem denB {H:Hp}:∀ bs:List Bool,DenL H (bs.map Dt.bl) (bs.map V.bl)
  | [] => rfl
  | b :: bs => ⟨_,_,rfl,rfl,denB bs⟩
theorem deqB:∀ bs:List Bool,deqL (bs.map Dt.bl) (bs.map Dt.bl) = true
  | [] => rfl
  | b :: bs => by
    show (b == b && deqL (bs.map Dt.bl) (bs.map Dt.bl)) = true
    rw [beq_self_eq_true,deqB bs]; rfl
theorem depB:∀ bs:List Bool,depL (bs.map Dt.bl) <= 0
  | [] => Nat.le_refl _
  | b :: bs => by
    show max 0 (depL (bs.map Dt.bl)) <= 0
    have:=depB bs
    omega
theorem e_bls {H:Hp} {Q:VK} {p q:Addr} (bs:List Bool) (h1:H p = some (.lst (bs.map V.bl))) (h2:H q = some (.lst (bs.map V.bl))) (k:Q (.bl true) H):rEqA (.ref p) (.ref q) H Q :=
  e_lst ⟨p,_,rfl,h1,denB bs⟩ ⟨q,_,rfl,h2,denB bs⟩ (Nat.le_trans (depB bs) (by decide)) (by rw [deqB bs]; exact k)
end L2
namespace L2
open PySem PySem.Spec PyProof.Rows
section
variable {σ:St} {H:Hp} {Q:VK} {K:PySem.W.Frag}
end
noncomputable def Lts (s:Str):Prop:=∀ c ∈ s.cps.toList,97 <= c /\ c < 123
theorem app_cps (a b:Str):(a ++ b).cps.toList = a.cps.toList ++ b.cps.toList:=by
  show (a.cps ++ b.cps).toList = _
  simp
theorem Lts.app {a b:Str} (h1:Lts a) (h2:Lts b):Lts (a ++ b):=by
  intro c hc
  rw [app_cps] at hc
  rcases List.mem_append.mp hc with h | h
  . exact h1 c h
  . exact h2 c h
theorem Lts.one {c:Nat} (h:97 <= c /\ c < 123):Lts ⟨#[c]⟩:=by
  intro d hd
  have:d = c:=by simpa using hd
  rw [this]
  exact h
theorem Lts.sub {a b:Str} (h:Lts a) (s:∀ c ∈ b.cps.toList,c ∈ a.cps.toList):Lts b:=fun c hc => h c (s c hc)
theorem Lts.of {cs:List Nat} (h:∀ c ∈ cs,97 <= c /\ c < 123):Lts ⟨cs.toArray⟩:=fun c hc => h c (by simpa using hc)
theorem lst_one (k:Key) (q:Rat):lst [(k,q)] = [(k,q)]:=rfl
noncomputable abbrev sC:Str:=Str.ofString "c"
noncomputable def n2:List TRun:=[(sA,sB,Rat.divInt 1 2),(sB,sC,Rat.divInt 1 3)]
end L2
namespace L2
open PySem PySem.Spec PyProof.Rows
noncomputable def gK {α:Type} (n:Nat) (us ws:List α):List α:=if us.length = n /\ ws.length = 1 then us ++ ws else []
structure DfK (K:PySem.W.Frag) (mg:Str -> Option Value) (x:Str) (st:Stmt) (ps:List Str) (dvs:List V) (n:Nat) (ks:List Str):Prop where
  ex:∃ (f:Addr) (fd:FuncData),(∃ (oc:Value) (od:Option Addr) (dV kV doc pm:Value) (an:Option Addr) (cdv ct:Value) (osl:Array (Option Value)),
    fd = PySem.W.fnOf x x (defArgs st) (defBody st) (defScope st) dV kV doc pm an cdv ct /\ K.lookup f = some ⟨oc,od,.func fd,osl⟩ /\ PySem.W.codeIn K cdv x = true) /\ PySem.W.keepIn K (.ref f) = true /\ mg x = some (.ref f) /\ Binds K fd ps [] /\ (∃ ds,Vals dvs ds /\ Binds K fd ps ds) /\ KBinds K fd ps ks (gK n) (gK n)
structure OkfK (P:Program) (w:World) (K:PySem.W.Frag) (mg:Str -> Option Value) (base:Heap) (k:Nat) (x:Str) (ps:List Str) (dvs:List V) (n:Nat) (ks:List Str) (sp:Sp):Prop where
  ex:∃ (f:Addr) (fd:FuncData),mg x = some (.ref f) /\ PySem.W.keepIn K (.ref f) = true /\ Binds K fd ps [] /\ (∃ ds,Vals dvs ds /\ Binds K fd ps ds) /\ KBinds K fd ps ks (gK n) (gK n) /\ FnOk P w K mg base CX0 k f fd ps sp
theorem OkfK.mono {P:Program} {w:World} {K:PySem.W.Frag} {mg:Str -> Option Value} {base:Heap} {j k:Nat} {x:Str} {ps:List Str} {dvs:List V} {n:Nat} {ks:List Str} {sp:Sp} (o:OkfK P w K mg base j x ps dvs n ks sp) (h:j <= k):OkfK P w K mg base k x ps dvs n ks sp :=
  let ⟨f,fd,a,b,c,e,z,d⟩:=o.ex; ⟨f,fd,a,b,c,e,z,d.mono h⟩
theorem OkfK.d {P:Program} {w:World} {K:PySem.W.Frag} {mg:Str -> Option Value} {base:Heap} {k:Nat} {x:Str} {ps:List Str} {dvs:List V} {n:Nat} {ks:List Str} {sp:Sp} (o:OkfK P w K mg base k x ps dvs n ks sp):OkfD P w K mg base k x ps dvs sp :=
  let ⟨f,fd,a,b,c,e,_,d⟩:=o.ex; ⟨f,fd,a,b,c,e,d⟩
theorem OkfK.of {P:Program} {w:World} {K:PySem.W.Frag} {mg:Str -> Option Value} {base:Heap} {k:Nat} {x:Str} {st:Stmt} {N ps:List Str} {dvs:List V} {n:Nat} {ks:List Str} {sp:Sp} (d:DfK K mg x st ps dvs n ks) (S:FnScope N ps (defScope st)) (len:∀ vs H Q E,sp vs H Q E -> vs.length = ps.length)
    (hbody:∀ (f:Addr) (cdv:Value) (A:Around) (outer:List Env) (s:Shared) (H:Hp) (vs:List V) (Q:VK) (E:XK),Room k (A.deeper (envOfC x (defScope st) s.heap.objs.size f cdv)) -> sp vs H Q E ->
      ∃ t,PSs (cxOf CX0 P w K mg base N x (defScope st) f cdv A outer s H E).nox (defBody st) t /\ t { nx:=fun _ H' => Q .non H',rt:=Q } (start N vs) H):OkfK P w K mg base (k + 1) x ps dvs n ks sp:=by
  obtain ⟨f,fd,⟨oc,od,dV,kV,doc,pm,an,cdv,ct,osl,rfl,lk,hcd⟩,kp,a,b,b2,b3⟩:=d.ex
  refine ⟨f,_,a,kp,b,b2,b3,fn_of lk hcd S len fun A outer s H vs Q E hr hsp => ?_⟩
  obtain ⟨t,h,q⟩:=hbody f cdv A outer s H vs Q E hr hsp
  exact ⟨t,h.nox,q⟩
section
variable {X:Cx} {k n:Nat} {x:Str} {ps ks:List Str} {dvs:List V} {sp:Sp} {p pos:Pos} {e:Expr} {es:List Expr} {kws:List Keyword} {t tk:TA}
theorem r_callK {σ:St} {H:Hp} {Q:VK} {E:XK} {gV:List V -> List V -> List V} {ta tb:TA} (k:ta σ H fun vs H1 => tb σ H1 fun zs H2 => sp (gV vs zs) H2 Q E):tCallK sp gV E ta tb σ H Q:=k
end
theorem r_cut {s:TS} {D:Ends} {σ:St} {H:Hp} (J:St -> Hp -> Prop) (hJ:∀ σ H,J σ H -> D.nx σ H) (k:∀ NX:St -> Hp -> Prop,(∀ σ H,J σ H -> NX σ H) -> s ⟨NX,D.rt,D.bk,D.ct⟩ σ H):s D σ H:=k D.nx hJ
theorem LQ.kp {β:Type} {R:Hp -> V -> β -> Prop} {H H':Hp} {l p:Addr} {ds:List β} {n:Int} (h:LQ R H l ds) (hR:∀ {H H' v b},R H v b -> TK H H' -> R H' v b) (st:St3 H p n) (k:Kp p H H') (hne:l ≠ p):LQ R H' l ds :=
  let ⟨vs,a,b⟩:=h; ⟨vs,k _ _ hne a,Pd.imp b fun v b f => hR f (st.tk k)⟩
section
variable {σ:St} {H:Hp} {Q:VK} {K:PySem.W.Frag}
end
theorem room_of2 {l:List Rat} (h:∀ q ∈ l,TOk q) (hl:l.length <= 40):∀ t,Bd (dprod l) (2 * 10 ^ 18 * 40000) t -> Sz 3900 t:=by
  have h1:=dprod_le fun q hq => (h q hq).d
  have h2:(10 ^ 18) ^ l.length <= (10 ^ 18) ^ 40:=Nat.pow_le_pow_right (by decide) hl
  have h3:dprod l <= (10 ^ 18) ^ 40:=Nat.le_trans h1 h2
  have h4:(10 ^ 18) ^ 40 < 2 ^ 3900:=by decide +kernel
  have h5:2 * 10 ^ 18 * 40000 * (10 ^ 18) ^ 40 < 2 ^ 3900:=by decide +kernel
  exact fun t b => b.sz (dprod_ne l) (Nat.lt_of_le_of_lt h3 h4) (Nat.lt_of_le_of_lt (Nat.mul_le_mul_left _ h3) h5)
theorem sz_of {q:Rat} {m n:Nat} (h1:q.num.natAbs < 2 ^ m) (h2:q.den < 2 ^ m) (h:m <= n):Sz n q:=Sz.mono (m:=m) ⟨h1,h2⟩ h
theorem TOk.sz {q:Rat} (h:TOk q):Sz 3900 q:=sz_of (m:=64) (Nat.lt_of_le_of_lt h.n (by decide)) (Nat.lt_of_le_of_lt h.d (by decide)) (by decide)
noncomputable def n3:List TRun:=[(sA,sB,Rat.divInt 1 2),(sB,sC,Rat.divInt 1 1)]
end L2
namespace L2
open PySem PySem.Spec PyProof.Rows
section
variable {X:Cx}
end
section
variable {H:Hp} {Q:VK} {u v:V} {a b:Option Rat}
end
inductive Pth (net:List (RunD Key)) (a:Key):Key -> Rat -> Prop
  | nil:Pth net a a 0
  | snoc {q p:Key} {s:Rat} {k:Nat} {r:RunD Key}:Pth net a q s -> net[k]? = some r -> Jn r q p -> Pth net a p (s + r.2.2)
theorem Pth.trans {net:List (RunD Key)} {a b c:Key} {s t:Rat} (h:Pth net a b s) (g:Pth net b c t):Pth net a c (s + t):=by
  induction g with
  | nil => rw [Rat.add_zero]; exact h
  | snoc g h1 h2 ih =>
    rw [← Rat.add_assoc]
    exact .snoc ih h1 h2
theorem Pth.one {net:List (RunD Key)} {k:Nat} {r:RunD Key} {q p:Key} (h1:net[k]? = some r) (h2:Jn r q p):Pth net q p r.2.2:=by
  have:=Pth.snoc (.nil (a:=q)) h1 h2
  rwa [Rat.zero_add] at this
theorem Pth.symm {net:List (RunD Key)} {a b:Key} {s:Rat} (h:Pth net a b s):Pth net b a s:=by
  induction h with
  | nil => exact .nil
  | snoc h h1 h2 ih =>
    rw [Rat.add_comm]
    exact (Pth.one h1 h2.symm).trans ih
theorem Pth.nn {net:List (RunD Key)} {a b:Key} {s:Rat} (hp:∀ r ∈ net,0 < r.2.2) (h:Pth net a b s):0 <= s:=by
  induction h with
  | nil => exact Rat.le_refl
  | snoc h h1 h2 ih => exact Rat.add_nonneg ih (Rat.le_of_lt (hp _ (List.mem_of_getElem? h1)))
section
variable {net:List (RunD Key)} {a b:Key} {m:Rat} {tk:Nat -> Option Rat} {f:Key -> Option Rat}
theorem arr_pth {p:Key} {t:Rat} (h:Arr net (aget (lst [(a,m)])) tk p t):∃ s,Pth net a p s /\ t = m + s:=by
  induction h with
  | push e =>
    have:=lst_mem (aget_mem e)
    cases List.mem_singleton.mp this
    exact ⟨0,.nil,by rw [Rat.add_zero]⟩
  | run _ h1 h2 _ ih =>
    obtain ⟨s,g,rfl⟩:=ih
    exact ⟨_,.snoc g h1 h2,by rw [Rat.add_assoc]⟩
theorem pth_arr (h0:∀ k,tk k = none) {p:Key} {s:Rat} (h:Pth net a p s):Arr net (aget (lst [(a,m)])) tk p (m + s):=by
  induction h with
  | nil =>
    rw [Rat.add_zero]
    exact .push (by rw [lst_one]; simp [aget])
  | snoc _ h1 h2 ih =>
    rw [← Rat.add_assoc]
    exact .run ih h1 h2 fun u e => by rw [h0] at e; cases e
structure Dst (net:List (RunD Key)) (a:Key) (m:Rat) (f:Key -> Option Rat):Prop where
  is:∀ p t,f p = some t -> ∃ s,Pth net a p s /\ t = m + s
  le:∀ p s,Pth net a p s -> ∃ u,f p = some u /\ u <= m + s
theorem Falls.dst (h0:∀ k,tk k = none) (h:Falls net (aget (lst [(a,m)])) tk f):Dst net a m f:=⟨fun p t e => arr_pth (h.arr p t e),fun p s g => h.le p _ (pth_arr h0 g)⟩
theorem Dst.uniq {f g:Key -> Option Rat} {k:Rat} (h:Dst net a m f) (h':Dst net a k g) (p:Key):(f p).map (· - m) = (g p).map (· - k):=by
  have key:∀ {f g:Key -> Option Rat} {m k:Rat},Dst net a m f -> Dst net a k g -> ∀ t,f p = some t -> ∃ u,g p = some u /\ u - k <= t - m:=fun {f g m k} h h' t e => by
    obtain ⟨s,g1,rfl⟩:=h.is p t e
    obtain ⟨u,e2,l⟩:=h'.le p s g1
    refine ⟨u,e2,?_⟩
    have e3:m + s - m = s:=by rw [Rat.add_comm,Rat.add_sub_cancel]
    have e4:k + s - k = s:=by rw [Rat.add_comm,Rat.add_sub_cancel]
    rw [e3]
    have:=Rat.add_le_add_right (c:=-k) |>.mpr l
    rw [← Rat.sub_eq_add_neg,← Rat.sub_eq_add_neg,e4] at this
    exact this
  cases e:f p with
  | none =>
    cases e2:g p with
    | none => rfl
    | some u =>
      obtain ⟨_,z,_⟩:=key h' h u e2
      rw [e] at z
      cases z
  | some t =>
    obtain ⟨u,e2,l⟩:=key h h' t e
    obtain ⟨t',e3,l'⟩:=key h' h u e2
    rw [e] at e3
    cases e3
    rw [e2]
    exact congrArg some (Rat.le_antisymm l' l)
theorem Dst.symm {f g:Key -> Option Rat} (h:Dst net a 0 f) (h':Dst net b 0 g):f b = g a:=by
  have key:∀ {f g:Key -> Option Rat} {a b:Key},Dst net a 0 f -> Dst net b 0 g -> ∀ t,f b = some t -> ∃ u,g a = some u /\ u <= t:=fun {f g a b} h h' t e => by
    obtain ⟨s,g1,rfl⟩:=h.is b t e
    exact h'.le a s g1.symm
  cases e:f b with
  | none =>
    cases e2:g a with
    | none => rfl
    | some u =>
      obtain ⟨_,z,_⟩:=key h' h u e2
      rw [e] at z
      cases z
  | some t =>
    obtain ⟨u,e2,l⟩:=key h h' t e
    obtain ⟨t',e3,l'⟩:=key h' h u e2
    rw [e] at e3
    cases e3
    rw [e2,Rat.le_antisymm l' l]
theorem Dst.self {f:Key -> Option Rat} (hp:∀ r ∈ net,0 < r.2.2) (h:Dst net a 0 f):f a = some 0:=by
  obtain ⟨u,e,l⟩:=h.le a 0 .nil
  obtain ⟨s,g,rfl⟩:=h.is a u e
  have:=g.nn hp
  rw [Rat.zero_add] at e l
  rw [Rat.add_zero] at l
  rw [e,Rat.le_antisymm l this]
end
open Classical in
noncomputable def dst (n:List TRun) (a:Key) (m:Rat):Key -> Option Rat:=if h:∃ f,Falls (kn n) (aget (lst [(a,m)])) (fun _ => none) f then Classical.choose h else fun _ => none
noncomputable def gd (n:List TRun) (s z:Str):Option Rat:=if z ∈ names n then dst n (Sum.inr s) (Rat.divInt 0 1) (Sum.inr z) else none
noncomputable def prs (ys:List Str):List (Str×Str):=ys.flatMap fun y => ys.map fun z => (y,z)
noncomputable def ApQ (n1 n2:List TRun) (H:Hp) (v:V) (x:Str×Str):Prop:=∃ p va vb,v = .ref p /\ H p = some (.tup [.str x.1,.str x.2,va,vb]) /\ OptQ H va (gd n1 x.1 x.2) /\ OptQ H vb (gd n2 x.1 x.2)
theorem ApQ.tk {n1 n2:List TRun} {H H':Hp} {v:V} {x:Str×Str} (h:ApQ n1 n2 H v x) (t:TK H H'):ApQ n1 n2 H' v x:=let ⟨p,a,b,e,h1,h2,h3⟩:=h; ⟨p,a,b,e,t _ _ h1,h2.tk t,h3.tk t⟩
noncomputable def ApO (n1 n2:List TRun) (H:Hp) (v:V):Option (Str×Str) -> Prop
  | none => v = .non
  | some x => ApQ n1 n2 H v x
theorem Pd.app {β:Type} {R:V -> β -> Prop}:∀ {xs ys:List V} {ds es:List β},Paired R xs ds -> Paired R ys es -> Paired R (xs ++ ys) (ds ++ es)
  | _,_,_,_,.nil,h => h
  | _,_,_,_,.cons r t,h => .cons r (Pd.app t h)
theorem ApO.tk {n1 n2:List TRun} {H H':Hp} {v:V} {o:Option (Str×Str)} (h:ApO n1 n2 H v o) (t:TK H H'):ApO n1 n2 H' v o:=by
  cases o with
  | none => exact h
  | some x => exact ApQ.tk h t
structure NetOk (H:Hp) (l:Addr) (n:List TRun) (U:List Str):Prop where
  lq:LQ RunQ H l (kn n)
  len:n.length <= 24
  tok:∀ r ∈ n,TOk r.2.2 /\ 0 < r.2.2
  ul:U.length <= 10
  un:∀ x ∈ names n,x ∈ U
theorem NetOk.sm {H H':Hp} {l:Addr} {n:List TRun} {U:List Str} (h:NetOk H l n U) (s:Same H H'):NetOk H' l n U:=⟨h.lq.sm RunQ.tk s,h.len,h.tok,h.ul,h.un⟩
theorem NetOk.room {H:Hp} {l:Addr} {n:List TRun} {U:List Str} (h:NetOk H l n U) {m:Rat} (hm:TOk m):∃ D,NetIn H l (kn n) D (2 * 10 ^ 18) /\ Bd D (2 * 10 ^ 18) (Rat.divInt 0 1) /\ Bd D (2 * 10 ^ 18) m /\ Room8 D (2 * 10 ^ 18) /\ ∀ t,Bd D (2 * 10 ^ 18 * 4000) t -> Sz 8000 t:=by
  have tz:TOk (Rat.divInt 0 1):=⟨by decide +kernel,by decide +kernel,by decide +kernel⟩
  have rall:∀ q ∈ Rat.divInt 0 1 :: m :: n.map (·.2.2),TOk q:=fun q hq => by
    rcases List.mem_cons.mp hq with rfl | hq
    . exact tz
    rcases List.mem_cons.mp hq with rfl | hq
    . exact hm
    . obtain ⟨r,hr,rfl⟩:=List.mem_map.mp hq
      exact (h.tok r hr).1
  have hl:=h.len
  have hlen:(Rat.divInt 0 1 :: m :: n.map (·.2.2)).length <= 40:=by simp; omega
  obtain ⟨r39,r8,rbd⟩:=room_of rall hlen
  have rsz:=room_of2 rall hlen
  refine ⟨_,net_in h.lq (by omega) (fun r hr => rbd _ (List.mem_cons_of_mem _ (List.mem_cons_of_mem _ (List.mem_map.mpr ⟨r,hr,rfl⟩)))) (fun r hr => (h.tok r hr).2),rbd _ List.mem_cons_self,rbd _ (List.mem_cons_of_mem _ List.mem_cons_self),r8,fun t b => (rsz t (b.mono (Nat.mul_le_mul_left _ (by decide)))).mono (by decide)⟩
end L2
namespace L2
open PySem PySem.Spec PyProof.Rows
noncomputable def fW (n:Nat) (acc:Addr) (Pv:Nat -> List V -> Hp -> Prop):Nat -> Nat -> List V -> Hp -> Prop:=fun i m ys H1 => m = n - i /\ i <= n /\ ys.length <= i /\ H1 acc = some (.lst ys) /\ Pv i ys H1
noncomputable def fNext (n:Nat) (acc:Addr) (Pv:Nat -> List V -> Hp -> Prop) (ys:List V) (i:Nat):VK:=fun y H3 => H3 acc = some (.lst ys) /\ ∃ m',m' < n - i /\ fW n acc Pv (i + 1) m' (ys ++ [y]) (upd H3 acc (.lst (ys ++ [y])))
noncomputable def fSkip (n:Nat) (acc:Addr) (Pv:Nat -> List V -> Hp -> Prop) (ys:List V) (i:Nat) (H3:Hp):Prop:=∃ m',m' < n - i /\ fW n acc Pv (i + 1) m' ys H3
theorem f_next {n:Nat} {acc:Addr} {Pv:Nat -> List V -> Hp -> Prop} {ys:List V} {i:Nat} {y:V} {H3:Hp} (hlt:i < n) (hl:ys.length <= i) (ha:H3 acc = some (.lst ys)) (p:Pv (i + 1) (ys ++ [y]) (upd H3 acc (.lst (ys ++ [y])))):fNext n acc Pv ys i y H3 :=
  ⟨ha,n - (i + 1),by omega,rfl,hlt,by rw [List.length_append]; simp; exact hl,upd_same,p⟩
theorem f_skip {n:Nat} {acc:Addr} {Pv:Nat -> List V -> Hp -> Prop} {ys:List V} {i:Nat} {H3:Hp} (hlt:i < n) (hl:ys.length <= i) (ha:H3 acc = some (.lst ys)) (p:Pv (i + 1) ys H3):fSkip n acc Pv ys i H3 :=
  ⟨n - (i + 1),by omega,rfl,hlt,by omega,ha,p⟩
section
variable {te:TE} {Q:VK} {H:Hp} {caps:St} {K:PySem.W.Frag}
theorem r_compLT {c:TT} {a:Addr} {xs:List V} (hn:xs.length <= 1000) (Pv:Addr -> Nat -> List V -> Hp -> Prop) (h0:∀ acc,H acc = none -> Pv acc 0 [] (upd H acc (.lst []))) (hl':∀ acc i ys H1,H acc = none -> i <= xs.length -> Pv acc i ys H1 -> SqL K H1 a xs)
    (hs:∀ acc i ys H1 x,H acc = none -> xs[i]? = some x -> ys.length <= i -> H1 acc = some (.lst ys) -> Pv acc i ys H1 -> c (some x :: caps) H1 fun b H3 => if b = true then te (some x :: caps) H3 (fNext xs.length acc (Pv acc) ys i) else fSkip xs.length acc (Pv acc) ys i H3)
    (hd:∀ acc ys H1,H acc = none -> H1 acc = some (.lst ys) -> ys.length <= xs.length -> Pv acc xs.length ys H1 -> Q (.ref acc) H1):compK te (some c) (gName 0) (List.replicate 1 none) caps Q (Itl K a) H:=by
  intro acc hacc
  refine ⟨fW xs.length acc (Pv acc),⟨xs.length,by simp,Nat.zero_le _,Nat.le_refl _,upd_same,h0 acc hacc⟩,?_⟩
  rintro i m ys H1 ⟨rfl,hi,hl,ha,p⟩
  have q:=hl' acc i ys H1 hacc hi p
  refine ⟨ha,?_⟩
  by_cases hlt:i < xs.length
  . refine .inr ⟨small1000 (by omega),⟨xs,xs[i],q,by simp [hlt]⟩,fun us x H' hu y => ?_⟩
    obtain ⟨e,y⟩:=y
    subst e
    obtain ⟨o,rfl⟩:=len1 hu
    exact ⟨⟨[some x],rfl,rfl⟩,hs acc i ys _ x hacc (y xs q) hl ha p⟩
  . have e:i = xs.length:=by omega
    subst e
    exact .inl ⟨⟨xs,q,Nat.le_refl _⟩,hd acc ys H1 hacc ha hl p⟩
end
noncomputable def ItrD (lo:Int) (n:Nat):It:=⟨fun i _ => i < n,fun i H x H' => H' = H /\ x = .int (lo - i),fun i _ => n <= i⟩
section
variable {X:Cx} {tg:Expr}
noncomputable def iRngD (ta:TA):TI:=fun σ H R => ta σ H fun vs H1 => ∃ i j:Int,vs = [.int i,.int j,.int (-1)] /\ (-(2 ^ 62) <= i /\ i < 2 ^ 62 /\ -(2 ^ 62) <= j /\ j < 2 ^ 62) /\ R (ItrD i (i - j).toNat) H1
theorem r_rngD {σ:St} {H:Hp} {R:It -> Hp -> Prop} {ta:TA} (k:ta σ H fun vs H1 => ∃ i j:Int,vs = [.int i,.int j,.int (-1)] /\ (-(2 ^ 62) <= i /\ i < 2 ^ 62 /\ -(2 ^ 62) <= j /\ j < 2 ^ 62) /\ R (ItrD i (i - j).toNat) H1):iRngD ta σ H R:=k
end
section
variable {σ:St} {H:Hp} {D:Ends} {K:PySem.W.Frag}
end
noncomputable def rngV (n:Nat):List V:=(List.range n).map fun (i:Nat) => V.int (i:Int)
noncomputable def tLrng (ta:TA):TE:=fun σ H Q => ta σ H fun vs H1 => ∃ n:Nat,vs = [.int n] /\ n <= 1000 /\ ∀ p,H1 p = none -> Q (.ref p) (upd H1 p (.lst (rngV n)))
theorem r_lrng {σ:St} {H:Hp} {Q:VK} {ta:TA} (k:ta σ H fun vs H1 => ∃ n:Nat,vs = [.int n] /\ n <= 1000 /\ ∀ p,H1 p = none -> Q (.ref p) (upd H1 p (.lst (rngV n)))):tLrng ta σ H Q:=k
section
variable {X:Cx}
end
section
variable {H:Hp} {Q:VK}
end
end L2
namespace L2
open PySem PySem.Spec PyProof.Rows
section
variable {net:List (RunD Key)} {push:Key -> Option Rat} {tk:Nat -> Option Rat}
end
noncomputable def n4:List TRun:=[(sA,sB,Rat.divInt 1 1),(sB,sA,Rat.divInt 1 1)]
section
variable {X:Cx} {scope:Scope} {caps:List (Str×Addr)} {N:List Str} {C:Addr} {s0:Shared} {H0:Hp} {ex:List Addr}
end
section
variable {te:TE} {Q:VK} {H:Hp} {caps:St} {K:PySem.W.Frag} {σ:St}
noncomputable def ittK (K:PySem.W.Frag) (R:It -> Hp -> Prop):VK:=fun x H1 => ∃ a,x = .ref a /\ (∃ xs,SqT K H1 a xs) /\ R (Itt K a) H1
theorem r_iTup {tl:TE} {R:It -> Hp -> Prop} (k:tl σ H (ittK K R)):iTup K tl σ H R:=k
end
theorem Pd.set {β:Type} {R:V -> β -> Prop}:∀ {xs:List V} {ds:List β} (_:Paired R xs ds) (j:Nat) {v:V} {b:β},R v b -> Paired R (xs.set j v) (ds.set j b)
  | _,_,.nil,_,_,_,_ => .nil
  | _,_,.cons r t,0,_,_,h => .cons h t
  | _,_,.cons r t,j + 1,_,_,h => .cons r (Pd.set t j h)
theorem Pd.erase {β:Type} {R:V -> β -> Prop}:∀ {xs:List V} {ds:List β} (_:Paired R xs ds) (j:Nat),Paired R (xs.eraseIdx j) (ds.eraseIdx j)
  | _,_,.nil,_ => .nil
  | _,_,.cons r t,0 => t
  | _,_,.cons r t,j + 1 => .cons r (Pd.erase t j)
noncomputable def n5:List TRun:=[(sA,sB,Rat.divInt 1 1)]
end L2
namespace L2
open PySem PySem.Spec PyProof.Rows
inductive Rch (net:List (RunD Key)) (B:Nat -> Key -> Prop) (ps:List Key):Key -> Prop where
  | push {p:Key} (h:p ∈ ps):Rch net B ps p
  | step {p x:Key} {k:Nat} {r:RunD Key} (h:Rch net B ps p) (hr:net[k]? = some r) (j:Jn r p x) (nb:¬ B k p):Rch net B ps x
theorem Rch.sub {net:List (RunD Key)} {B:Nat -> Key -> Prop} {ps:List Key} {S:Key -> Prop} (h0:∀ p ∈ ps,S p) (hc:∀ p k r x,S p -> net[k]? = some r -> Jn r p x -> ¬ B k p -> S x) {p:Key} (h:Rch net B ps p):S p:=by
  induction h with
  | push h => exact h0 _ h
  | step _ hr j nb ih => exact hc _ _ _ _ ih hr j nb
theorem Rch.imp {net:List (RunD Key)} {B C:Nat -> Key -> Prop} {ps:List Key} (h0:∀ k p r x,net[k]? = some r -> Jn r p x -> C k p -> B k p) {p:Key} (h:Rch net B ps p):Rch net C ps p:=by
  induction h with
  | push h => exact .push h
  | step _ hr j nb ih => exact .step ih hr j fun z => nb (h0 _ _ _ _ hr j z)
section
variable {H:Hp} {Q:VK} {K:PySem.W.Frag} {σ:St} {D:Ends} {v:V}
theorem r_aug {i:Nat} {te:TE} {ti:TIp} {x:V} (h:σ[i]? = some (some x)) (k:te σ H fun y H1 => ti x y H1 fun z H2 => D.nx (σ.set i (some z)) H2):tAug i te ti D σ H:=⟨x,h,k⟩
theorem r_ipI {f:Int -> Int -> Int} {i j:Int} (k:Q (.int (f i j)) H):ipI f (.int i) (.int j) H Q:=⟨i,j,rfl,rfl,k⟩
end
noncomputable def Cld (n:List TRun) (B:Nat -> Key -> Prop) (qs:List Str) (s:Str):Prop:=∀ k r x,(kn n)[k]? = some r -> Jn r (Sum.inr s) x -> ¬ B k (Sum.inr s) -> ∃ t ∈ qs,x = Sum.inr t
theorem Cld.mono {n:List TRun} {B:Nat -> Key -> Prop} {qs qs':List Str} {s:Str} (h:Cld n B qs s) (hs:∀ x ∈ qs,x ∈ qs'):Cld n B qs' s:=fun k r x a b c => let ⟨t,ht,e⟩:=h k r x a b c; ⟨t,hs t ht,e⟩
structure Sch (n:List TRun) (B:Nat -> Key -> Prop) (ps qs:List Str):Prop where
  rch:∀ s ∈ qs,Rch (kn n) B (ps.map Sum.inr) (Sum.inr s)
  ap:∃ ap:List Str,qs = ps ++ ap /\ ap.Nodup /\ ∀ x ∈ ap,x ∈ names n /\ x ∉ ps
theorem Sch.start (n:List TRun) (B:Nat -> Key -> Prop) (ps:List Str):Sch n B ps ps:=⟨fun s hs => .push (List.mem_map_of_mem hs),[],by simp,List.nodup_nil,fun x hx => by simp at hx⟩
theorem Sch.add {n:List TRun} {B:Nat -> Key -> Prop} {ps qs:List Str} {s x:Str} {k:Nat} {r:RunD Key} (h:Sch n B ps qs) (hs:s ∈ qs) (hr:(kn n)[k]? = some r) (j:Jn r (Sum.inr s) (Sum.inr x)) (nb:¬ B k (Sum.inr s)) (hx:x ∉ qs):Sch n B ps (qs ++ [x]):=by
  obtain ⟨ap,rfl,nd,hm⟩:=h.ap
  have hxn:x ∈ names n:=by
    obtain ⟨r',e1,rfl⟩:=kn_at hr
    have hm':=List.mem_of_getElem? e1
    unfold names
    rcases j with ⟨_,e⟩ | ⟨_,e⟩
    . cases e; exact List.mem_append_right _ (List.mem_map_of_mem hm')
    . cases e; exact List.mem_append_left _ (List.mem_map_of_mem hm')
  refine ⟨fun y hy => ?_,ap ++ [x],by rw [List.append_assoc],?_,fun y hy => ?_⟩
  . rcases List.mem_append.mp hy with hy | hy
    . exact h.rch y hy
    . rw [List.mem_singleton.mp hy]
      exact .step (h.rch s hs) hr j nb
  . rw [List.nodup_append]
    refine ⟨nd,by simp,fun a ha b hb => ?_⟩
    rw [List.mem_singleton.mp hb]
    rintro rfl
    exact hx (List.mem_append_right _ ha)
  . rcases List.mem_append.mp hy with hy | hy
    . exact hm y hy
    . rw [List.mem_singleton.mp hy]
      exact ⟨hxn,fun z => hx (List.mem_append_left _ z)⟩
theorem Sch.len {n:List TRun} {B:Nat -> Key -> Prop} {ps qs:List Str} (h:Sch n B ps qs):qs.length <= ps.length + 2 * n.length:=by
  obtain ⟨ap,rfl,nd,hm⟩:=h.ap
  have:=nd_len nd (fun x hx => (hm x hx).1)
  have e:(names n).length = 2 * n.length:=by unfold names; rw [List.length_append,List.length_map,List.length_map]; omega
  rw [List.length_append]
  omega
theorem Sch.done {n:List TRun} {B:Nat -> Key -> Prop} {ps qs:List Str} (h:Sch n B ps qs) (c:∀ s ∈ qs,Cld n B qs s) (s:Str):s ∈ qs ↔ Rch (kn n) B (ps.map Sum.inr) (Sum.inr s):=by
  refine ⟨h.rch s,fun hr => ?_⟩
  have key:∀ p,Rch (kn n) B (ps.map Sum.inr) p -> ∃ t ∈ qs,p = Sum.inr t:=fun p hp => by
    refine Rch.sub (S:=fun p => ∃ t ∈ qs,p = Sum.inr t) (fun p hp => ?_) (fun p k r x ⟨t,ht,e⟩ hr j nb => ?_) hp
    . obtain ⟨t,ht,rfl⟩:=List.mem_map.mp hp
      obtain ⟨ap,rfl,_⟩:=h.ap
      exact ⟨t,List.mem_append_left _ ht,rfl⟩
    . subst e
      exact c t ht k r x hr j nb
  obtain ⟨t,ht,e⟩:=key _ hr
  cases e
  exact ht
noncomputable def KeysAre (kvs:List (Key×V)) (qs:List Str):Prop:=(∀ s:Str,(valV kvs (Sum.inr s)).isSome = decide (s ∈ qs)) /\ kvs.length <= qs.length
theorem KeysAre.add {kvs:List (Key×V)} {qs:List Str} {x:Str} {v:V} (h:KeysAre kvs qs):KeysAre (putK kvs (Sum.inr x) v) (qs ++ [x]):=by
  refine ⟨fun s => ?_,?_⟩
  . rw [valV_put]
    by_cases e:s = x
    . subst e
      rw [if_pos rfl,decide_eq_true (List.mem_append_right _ (by simp))]
      rfl
    . rw [if_neg (fun z => e (Sum.inr.inj z)),h.1 s]
      by_cases hs:s ∈ qs
      . rw [decide_eq_true hs,decide_eq_true (List.mem_append_left _ hs)]
      . rw [decide_eq_false hs,decide_eq_false (fun z => (List.mem_append.mp z).elim hs fun y => e (List.mem_singleton.mp y))]
  . have:=length_putK kvs (Sum.inr x) v
    have:=h.2
    rw [List.length_append]
    simp
    omega
theorem KeysAre.nil:KeysAre [] []:=⟨fun s => by rw [valV_nil]; simp,Nat.le_refl _⟩
theorem flat_ints:∀ ys:List Int,(ys.map V.int).all flatV = true
  | [] => rfl
  | y :: r => by
    rw [List.map_cons,List.all_cons,flat_ints r]
    rfl
end L2
namespace L2
open PySem PySem.Spec PyProof.Rows
section
variable {X:Cx} {a:Expr} {ta:TE}
noncomputable def tRev (ta:TE):TE:=fun σ H Q => ta σ H fun x H1 => ∃ l xs,x = .ref l /\ H1 l = some (.lst xs) /\ ∀ p,H1 p = none -> Q (.ref p) (upd H1 p (.lst xs.reverse))
theorem r_rev {σ:St} {H:Hp} {Q:VK} (k:ta σ H fun x H1 => ∃ l xs,x = .ref l /\ H1 l = some (.lst xs) /\ ∀ p,H1 p = none -> Q (.ref p) (upd H1 p (.lst xs.reverse))):tRev ta σ H Q:=k
end
section
variable {te:TE} {Q:VK} {H:Hp} {caps:St}
end
noncomputable def whN (Pv:St -> Hp -> Prop) (μ:St -> Hp -> Nat) (b:Nat):St -> Hp -> Prop:=fun σ' H' => Pv σ' H' /\ μ σ' H' < b
theorem wh_T {Pv:St -> Hp -> Prop} {μ:St -> Hp -> Nat} {b:Nat} {tb:TS} {D:Ends} {σ:St} {H1:Hp} (k:tb { D with nx:=whN Pv μ b,ct:=whN Pv μ b,bk:=D.nx } σ H1) :
    ∃ N:St -> Hp -> Prop,(∀ σ' H',N σ' H' -> ∃ m',m' < b /\ m' = μ σ' H' /\ Pv σ' H') /\ tb { D with nx:=N,ct:=N,bk:=D.nx } σ H1:=⟨_,fun _ _ z => ⟨_,z.2,rfl,z.1⟩,k⟩
theorem r_while {c:TT} {tb:TS} {D:Ends} {σ:St} {H:Hp} (Pv:St -> Hp -> Prop) (μ:St -> Hp -> Nat) (h0:Pv σ H)
    (hs:∀ σ H,Pv σ H -> c σ H fun b H1 => if b = true then ∃ N:St -> Hp -> Prop,(∀ σ' H',N σ' H' -> ∃ m',m' < μ σ H /\ m' = μ σ' H' /\ Pv σ' H') /\ tb { D with nx:=N,ct:=N,bk:=D.nx } σ H1 else D.nx σ H1):tWhile c tb D σ H:=by
  refine ⟨fun m σ H => m = μ σ H /\ Pv σ H,⟨_,rfl,h0⟩,?_⟩
  rintro m σ H ⟨rfl,p⟩
  exact hs σ H p
end L2
namespace L2
open PySem PySem.Spec PyProof.Rows
theorem ints_vals:∀ {xs:List Int} {us:List Value},Vals (xs.map V.int) us -> IntsAre us xs
  | [],_,.nil => .nil
  | x :: xs,_,.cons ⟨t,e⟩ r => by
    subst e
    exact .cons x t (ints_vals r)
noncomputable def rSortL:List V -> Hp -> VK -> Prop:=fun vs H Q => ∃ (p:Addr) (xs:List Int),vs = [.ref p] /\ H p = some (.lst (xs.map V.int)) /\ xs.length < 64 /\ ∀ (l:Addr) (ys:List Int),H l = none -> ys.Perm xs -> ys.Pairwise (· <= ·) -> Q (.ref l) (upd H l (.lst (ys.map V.int)))
theorem call_sortL {X:Cx}:CallR X (.builtin "sorted") rSortL:=by
  intro pins s σ H vs us Q I r h
  obtain ⟨p,xs,rfl,hp,hl,q⟩:=h
  obtain ⟨u,rfl,ru⟩:=r.one
  cases ru
  obtain ⟨z,its,n,rv,hlen,e⟩:=I.lstM hp
  rw [List.length_map] at hlen
  refine sorted_ints (vs:=its) ⟨_,e,rfl,n,rfl⟩ (ints_vals rv) (by omega) fun out ys a1 a2 a3 => ?_
  have hsz:((s.heap.push (seqObj "list" #[] 0)).update s.heap.objs.size (Obj.mapSeq (· ++ its.toArray))).objs.size = s.heap.objs.size + 1:=by
    rw [Heap.size_update,size_push']
  have g0:(((s.heap.push (seqObj "list" #[] 0)).update s.heap.objs.size (Obj.mapSeq (· ++ its.toArray))).push (seqObj "list" its.toArray 0)).get? (s.heap.objs.size + 1) = some (seqObj "list" its.toArray 0):=by
    rw [← hsz]; exact Heap.get?_push_size _ rfl
  obtain ⟨e',he⟩:=sortedHeap_at (vs:=its) (out:=out) g0
  have I1:=I.laid (h':=sortedAll s.heap its out) (a:=s.heap.objs.size + 1) (o:=.lst (ys.map V.int)) (t':=s.toks) (fun b o eb => by
    have hb:=Heap.lt_size eb
    unfold sortedAll
    rw [sortedHeap_old (Nat.ne_of_lt (Nat.lt_succ_of_lt hb)) (by rw [size_push',hsz]; exact Nat.lt_succ_of_lt (Nat.lt_succ_of_lt hb))]
    refine Heap.get?_push_of_some _ ?_
    exact (Heap.get?_update_other _ _ (Ne.symm (Nat.ne_of_lt hb))).trans (Heap.get?_push_of_some _ eb)) (Nat.le_succ _) ⟨by
    have:=a2.length_eq
    rw [List.length_map,sizeLine_eq]
    omega,out.toList,e',vals_ints a1,by rw [Array.toArray_toList]; exact he⟩
  exact ⟨.ref (s.heap.objs.size + 1),_,I1,rfl,q _ ys (I.hok.fresh (Nat.le_succ _)) a2 a3⟩
theorem r_sortL {H:Hp} {Q:VK} {p:Addr} {xs:List Int} (hp:H p = some (.lst (xs.map V.int))) (hl:xs.length < 64) (k:∀ (l:Addr) (ys:List Int) (G:Hp),H l = none -> Same H G -> G l = some (.lst (ys.map V.int)) -> ys.Perm xs -> ys.Pairwise (· <= ·) -> Q (.ref l) G):rSortL [.ref p] H Q :=
  ⟨p,xs,rfl,hp,hl,fun l ys h1 h2 h3 => k l ys _ h1 (Same.new h1) upd_same h2 h3⟩
end L2
namespace L2
open PySem PySem.Spec PyProof.Rows
theorem rv_nolen:typeLookup (.type "list_reverseiterator") "__len__" = pure none:=by rw [typeLookup_type,builtinLookup_eq_fast]; kernel_rfl
theorem rv_hint:typeLookup (.type "list_reverseiterator") "__length_hint__" = pure (some (.builtin "list_reverseiterator.__length_hint__")):=by rw [typeLookup_type,builtinLookup_eq_fast]; kernel_rfl
theorem rv_split:splitId "list_reverseiterator.__length_hint__" = some ("list_reverseiterator","__length_hint__"):=by decide +kernel
theorem rv_self:isSubtype (.type "list_reverseiterator") (.type "list_reverseiterator") = pure true:=by rw [isSubtype_type]; kernel_rfl
section
variable {prog:Program} {w:World} {A:Around} {E:Value -> Shared -> Prop} {s:Shared} {r:Addr}
theorem rv_room {Q:Bool -> Shared -> Prop} (hT:s.TypeIs (.ref r) "list_reverseiterator") (h:Q false s):wpAny (model prog w) A (Builtin.List.listLengthHint (.ref r)) Q E s:=by
  unfold Builtin.List.listLengthHint
  refine wpAny_bind (wpAny_specialOf hT rv_nolen ?_)
  dsimp only
  rw [if_neg (by decide),if_neg (by decide)]
  refine wpAny_bind (wpAny_specialOf hT rv_hint ?_)
  dsimp only
  rw [rv_split]
  dsimp only
  refine wpAny_bind (wpAny_isInstance hT rv_self ?_)
  rw [if_neg (by simp)]
  rw [if_pos (by decide +kernel),if_neg (by decide)]
  exact wpAny_pure h
theorem rv_fill {R:Result -> Shared -> Prop} {l S:Addr} {items:Array Value} {n:Nat} (hh:A.handled = none) (hit:s.heap.IsRevIter r l ((items.size:Int) - 1)) (hl:s.heap.IsList l items) (hne:l ≠ r) (hz:items.size <= sizeLine) (hr:S ≠ r) (hL:S ≠ l)
    (hS:s.heap.get? S = some { cls:=.type "list",data:=.seq #[] n })
    (k:∀ h' tk acc c,(∀ b o,b ≠ S -> b ≠ r -> s.heap.get? b = some o -> h'.get? b = some o) -> h'.get? S = some { cls:=.type "list",dict:=none,data:=.seq acc c,slots:=#[] } -> ItemsOf (fun i v => items[items.size - 1 - i]? = some v) acc items.size -> R (.ok (.ret .none)) { s with heap:=h',toks:=tk }) :
    wpAny (model prog w) A.in1 (Builtin.List.listExtendWith (.ref S) (.ref r) .none)
      (fun fin s' => match fin with | .done f => R (.ok f) s' | .again c' => c'.quiet = true /\ codeAny (model prog w) A c' R s') (fun e s' => R (.error e) s') s:=by
  have W:=(Walks.listRev (prog:=prog) (w:=w) (A:=A.in1) hh r l hne items).toS
  unfold Builtin.List.listExtendWith
  refine wpAny_bind (wpAny_typeOf hit.typeIs ?_)
  rw [if_neg (by simp [Builtin.List.listSameRef,hr])]
  refine wpAny_bind (wpAny_pyIter_revIter hit ?_)
  refine wpAny_bind (wpAny_holding (rv_room hit.typeIs ?_))
  rw [if_neg (by decide +kernel)]
  refine wpAny_pure ⟨plainId_quiet F.plain_extend_loop _,codeAny_extend_loopS W hz S (by simp [hr,hL]) .none items.size 0 _ #[] n rfl (Nat.zero_le _) ⟨Nat.zero_le _,by simpa using hit,hl⟩ hS (ItemsOf.nil _) fun s' acc c hm hS' hacc => ?_⟩
  rw [Moved.eq_with hm]
  exact k s'.heap s'.toks acc c (fun b o b1 b2 e => hm.heap b o (by simp [b1,b2]) e) hS' hacc
theorem call_list_rv {Q:Value -> Shared -> Prop} {l:Addr} {items:Array Value} (hh:A.handled = none) (hit:s.heap.IsRevIter r l ((items.size:Int) - 1)) (hl:s.heap.IsList l items) (hne:l ≠ r) (hz:items.size <= sizeLine)
    (k:∀ h' tk acc c,(∀ b o,b ≠ r -> s.heap.get? b = some o -> h'.get? b = some o) -> h'.get? s.heap.objs.size = some { cls:=.type "list",dict:=none,data:=.seq acc c,slots:=#[] } -> ItemsOf (fun i v => items[items.size - 1 - i]? = some v) acc items.size -> Q (.ref s.heap.objs.size) { s with heap:=h',toks:=tk }) :
    wpAny (model prog w) A (call (.type "list") [.ref r]) Q E s:=by
  obtain ⟨o1,g1,_⟩:=id hit
  obtain ⟨o2,g2,_⟩:=id hl
  have l1:=Heap.lt_size g1
  have l2:=Heap.lt_size g2
  refine callType_codes (Q₁:=fun obj s₁ => obj = .ref s.heap.objs.size /\ s₁ = { s with heap:=s.heap.push { cls:=.type "list",data:=.seq #[] } }) F.called_list (F.typeCall_list_1 _) F.entry_list_init (code_list_new _ ⟨rfl,rfl⟩) ?_
  rintro _ _ ⟨rfl,rfl⟩
  have g0:(s.heap.push { cls:=.type "list",data:=.seq #[] }).get? s.heap.objs.size = some { cls:=.type "list",data:=.seq #[] }:=Heap.get?_push_size _ rfl
  have kp:∀ b o,s.heap.get? b = some o -> (s.heap.push { cls:=.type "list",data:=.seq #[] }).get? b = some o:=fun b o e => Heap.get?_push_of_some _ e
  refine ⟨⟨_,g0,rfl⟩,F.args_list_init_2 _ _,?_⟩
  generalize s.heap.push { cls:=.type "list",data:=.seq #[] } = h0 at g0 kp ⊢
  show wpAny _ _ (Builtin.List.listItems (.ref s.heap.objs.size) >>= fun old => Builtin.List.listUpdate (.ref s.heap.objs.size) (fun _ => #[]) >>= fun _ => letGo old.toList.reverse >>= fun _ => Builtin.List.listExtendWith (.ref s.heap.objs.size) (.ref r) .none) _ _ _
  refine wpAny_bind ?_
  unfold Builtin.List.listItems
  refine wpAny_bind (wpAny_seqItems g0 rfl (wpAny_pure (wpAny_bind (wpAny_updateSeq g0 rfl (wpAny_bind (wpAny_letGo ?_))))))
  have g1':=Heap.get?_update_self (Obj.mapSeq (fun _ => (#[]:Array Value))) g0 rfl
  have kp1:∀ b o,b ≠ s.heap.objs.size -> s.heap.get? b = some o -> (h0.update s.heap.objs.size (Obj.mapSeq (fun _ => (#[]:Array Value)))).get? b = some o:=fun b o hb e => (Heap.get?_update_other _ _ (Ne.symm hb)).trans (kp b o e)
  generalize h0.update s.heap.objs.size (Obj.mapSeq (fun _ => (#[]:Array Value))) = h1 at g1' kp1 ⊢
  have n1:s.heap.objs.size ≠ r:=Nat.ne_of_gt l1
  have n2:s.heap.objs.size ≠ l:=Nat.ne_of_gt l2
  refine rv_fill (A:=A.in1) hh (hit.at fun o e => kp1 _ _ (Ne.symm n1) e) (hl.at fun o e => kp1 _ _ (Ne.symm n2) e) hne hz n1 n2 g1' fun h' tk acc c hk hD hacc => ?_
  exact ⟨rfl,k h' tk acc c (fun b o hb e => hk b o (Nat.ne_of_lt (Heap.lt_size e)) hb (kp1 b o (Nat.ne_of_lt (Heap.lt_size e)) e)) hD hacc⟩
end
theorem rev_vals {vs:List V} {its:List Value} {acc:Array Value} (r:Vals vs its) (h:ItemsOf (fun i v => its.toArray[its.toArray.size - 1 - i]? = some v) acc its.toArray.size):Vals vs.reverse acc.toList:=by
  have e:acc.toList = its.reverse:=by
    apply List.ext_getElem?
    intro j
    have hs:acc.size = its.length:=by
      have:=h.1
      simpa using this
    by_cases hj:j < acc.size
    . have z:=h.2 j acc[j] (by simp [hj])
      rw [List.size_toArray,List.getElem?_toArray] at z
      rw [List.getElem?_reverse (by omega),z]
      simp [hj]
    . rw [List.getElem?_eq_none (by simp; omega),List.getElem?_eq_none (by simp; omega)]
  rw [e]
  exact r.reverse
theorem pe_lrev {X:Cx} {a:Expr} {ta:TE} {p p2 pos pos2:Pos} (hc:X.calm = true) (hgl:Gl X "list") (hml:X.mg "list" = none) (hg:Gl X "reversed") (hm:X.mg "reversed" = none) (ha:PE X a ta)
    (he:starEach [.Call (.Name "reversed" p2) [a] [] pos2] X.env = [(false,eval (.Call (.Name "reversed" p2) [a] [] pos2) X.env)]:=by rfl) (hs:starEach [a] X.env = [(false,eval a X.env)]:=by rfl) :
    PE X (.Call (.Name "list" p) [.Call (.Name "reversed" p2) [a] [] pos2] [] pos) (tRev ta):=by
  intro pins s σ H Q I h
  refine wpAny_Call_Name_kw (ld_blt I hgl hml bt_list ?_ (by decide) (by decide))
  refine PyProof.Rows.callWith_type1 ?_ he rfl
  rw [he]
  show wpAny _ _ (spliced ((false,eval (.Call (.Name "reversed" p2) [a] [] pos2) X.env) :: backTo pos [])) _ _ s
  refine Calls.spliced_cons ?_
  refine Call_ (ld_blt I hg hm bt_reversed (PyProof.Rows.callWith_type1 ?_ hs rfl))
  rw [hs]
  show wpAny _ _ (spliced ((false,eval a X.env) :: backTo pos2 [])) _ _ s
  refine Calls.spliced_cons (thn (ha pins s σ H _ I h) fun v s1 ⟨x,H1,I1,r1,l,xs,e,hx,q⟩ => ?_)
  subst e
  cases r1
  refine Calls.spliced_nil ?_
  obtain ⟨its,r,ht,hz⟩:=I1.list (SqL.of hx)
  have hlen:=r.length
  refine call_reversed_list ht.isList ?_
  refine Calls.spliced_nil ?_
  have hll:l < s1.heap.objs.size:=by
    obtain ⟨o,g,_⟩:=ht.isList
    exact Heap.lt_size g
  refine call_list_rv (I.ok.hd hc) (l:=l) (items:=its.toArray) ⟨_,Heap.get?_push_size _ rfl,rfl,rfl⟩ (ht.isList.at fun o e => Heap.get?_push_of_some _ e) (Nat.ne_of_lt hll) (by rw [List.size_toArray]; omega) fun h' tk acc c hk hD hacc => ?_
  have hv:=rev_vals r hacc
  refine ⟨.ref _,_,I1.laid (t':=tk) (a:=(s1.heap.push (revObj l ((its.toArray.size:Int) - 1))).objs.size) (o:=.lst xs.reverse) (fun b o e => hk b o (Nat.ne_of_lt (Heap.lt_size e)) (Heap.get?_push_of_some _ e)) (by rw [Heap.size_push]; exact Nat.le_succ _) ?_,rfl,q _ (I1.hok.fresh (by rw [Heap.size_push]; exact Nat.le_succ _))⟩
  exact ⟨by rw [List.length_reverse]; exact hz,_,c,hv,by rw [Array.toArray_toList]; exact hD⟩
end L2
namespace L2
open PySem PySem.Spec PyProof.Rows
noncomputable def Sums (S:List Nat) (n k:Nat):Prop:=∃ L:List Nat,(∀ x ∈ L,x ∈ S) /\ L.sum = n /\ L.length = k
noncomputable def isB (S:List Nat) (n:Nat):Option Nat -> Prop
  | none => ∀ k,¬ Sums S n k
  | some k => Sums S n k /\ ∀ j,Sums S n j -> k <= j
theorem isB.uniq {S:List Nat} {n:Nat} {o p:Option Nat} (h:isB S n o) (g:isB S n p):o = p:=by
  cases o with
  | none => cases p with
    | none => rfl
    | some k => exact absurd g.1 (h k)
  | some k => cases p with
    | none => exact absurd h.1 (g k)
    | some j => exact congrArg some (Nat.le_antisymm (h.2 _ g.1) (g.2 _ h.1))
theorem isB_zero {S:List Nat}:isB S 0 (some 0):=⟨⟨[],fun x h => absurd h (by simp),rfl,rfl⟩,fun _ _ => Nat.zero_le _⟩
theorem Sums.cons {S:List Nat} {n k s:Nat} (hs:s ∈ S) (hn:s <= n) (h:Sums S (n - s) k):Sums S n (k + 1):=by
  obtain ⟨L,h1,h2,h3⟩:=h
  refine ⟨s :: L,fun x hx => ?_,by rw [List.sum_cons,h2]; omega,by rw [List.length_cons,h3]⟩
  rcases List.mem_cons.mp hx with e | e
  . rw [e]; exact hs
  . exact h1 x e
theorem Sums.head {S:List Nat} {n k:Nat} (h:Sums S n k) (hn:0 < n):∃ s j,s ∈ S /\ s <= n /\ k = j + 1 /\ Sums S (n - s) j:=by
  obtain ⟨L,h1,h2,h3⟩:=h
  cases L with
  | nil => rw [List.sum_nil] at h2; omega
  | cons s L =>
    rw [List.sum_cons] at h2
    exact ⟨s,L.length,h1 s List.mem_cons_self,by omega,by rw [← h3]; rfl,L,fun x hx => h1 x (List.mem_cons_of_mem _ hx),by omega,rfl⟩
theorem isB_step {S:List Nat} {n:Nat} {t:Nat -> Option Nat} (hn:0 < n) (hS:∀ s ∈ S,0 < s) (ht:∀ m,m < n -> isB S m (t m)) {o:Option Nat}
    (h0:o = none -> ∀ s ∈ S,s <= n -> t (n - s) = none) (h1:∀ k,o = some k -> ∃ j,k = j + 1 /\ (∃ s ∈ S,s <= n /\ t (n - s) = some j) /\ ∀ s ∈ S,s <= n -> ∀ i,t (n - s) = some i -> j <= i):isB S n o:=by
  cases o with
  | none =>
    intro k hk
    obtain ⟨s,j,hs,hl,_,hj⟩:=hk.head hn
    have e:=h0 rfl s hs hl
    have:=ht (n - s) (by have:=hS s hs; omega)
    rw [e] at this
    exact this j hj
  | some k =>
    obtain ⟨j,rfl,⟨s,hs,hl,e⟩,hm⟩:=h1 k rfl
    refine ⟨?_,fun i hi => ?_⟩
    . have:=ht (n - s) (by have:=hS s hs; omega)
      rw [e] at this
      exact this.1.cons hs hl
    . obtain ⟨s',i',hs',hl',rfl,hi'⟩:=hi.head hn
      have:=ht (n - s') (by have:=hS s' hs'; omega)
      cases e':t (n - s') with
      | none => rw [e'] at this; exact absurd hi' (this i')
      | some q =>
        rw [e'] at this
        have h2:=hm s' hs' hl' q e'
        have h3:=this.2 i' hi'
        omega
inductive Grd (S:List Nat):Nat -> List Nat -> Prop
  | nil:Grd S 0 []
  | cons {n s k:Nat} {L:List Nat}:s ∈ S -> s <= n -> 0 < s -> isB S n (some (k + 1)) -> isB S (n - s) (some k) -> (∀ s' ∈ S,s' <= n -> isB S (n - s') (some k) -> s' <= s) -> Grd S (n - s) L -> Grd S n (s :: L)
theorem Grd.uniq {S:List Nat} {n:Nat} {L M:List Nat} (h:Grd S n L):Grd S n M -> L = M:=by
  induction h generalizing M with
  | nil =>
    intro g
    cases g with
    | nil => rfl
    | cons a b c => omega
  | @cons n s k L a b c d e f _ ih =>
    intro g
    cases g with
    | nil => omega
    | @cons _ s' k' L' a' b' c' d' e' f' g' =>
      have hk:k = k':=by have:=d.uniq d'; cases this; rfl
      subst hk
      have hs:s = s':=Nat.le_antisymm (f' s a b e) (f s' a' b' e')
      subst hs
      rw [ih g']
theorem Grd.mem {S:List Nat} {n:Nat} {L:List Nat} (h:Grd S n L):∀ x ∈ L,x ∈ S:=by
  induction h with
  | nil => intro x hx; nomatch hx
  | cons a _ _ _ _ _ _ ih =>
    intro x hx
    rcases List.mem_cons.mp hx with e | e
    . rw [e]; exact a
    . exact ih x e
theorem Grd.len {S:List Nat} {n:Nat} {L:List Nat} (h:Grd S n L):L.length <= n:=by
  induction h with
  | nil => exact Nat.le_refl _
  | cons _ b c _ _ _ _ ih => rw [List.length_cons]; omega
theorem Sums.scale {S:List Nat} {g n k:Nat} (hg:0 < g) (hS:∀ s ∈ S,g ∣ s):Sums (S.map (· / g)) n k ↔ Sums S (n * g) k:=by
  constructor
  . rintro ⟨L,h1,h2,h3⟩
    refine ⟨L.map (· * g),fun x hx => ?_,?_,by rw [List.length_map,h3]⟩
    . obtain ⟨y,hy,rfl⟩:=List.mem_map.mp hx
      obtain ⟨s,hs,rfl⟩:=List.mem_map.mp (h1 y hy)
      rw [Nat.div_mul_cancel (hS s hs)]; exact hs
    . rw [← h2]
      clear h1 h2 h3
      induction L with
      | nil => simp
      | cons a L ih => rw [List.map_cons,List.sum_cons,List.sum_cons,ih,Nat.add_mul]
  . rintro ⟨L,h1,h2,h3⟩
    have hd:∀ x ∈ L,g ∣ x:=fun x hx => hS x (h1 x hx)
    refine ⟨L.map (· / g),fun x hx => ?_,?_,by rw [List.length_map,h3]⟩
    . obtain ⟨y,hy,rfl⟩:=List.mem_map.mp hx
      exact List.mem_map.mpr ⟨y,h1 y hy,rfl⟩
    . have:(L.map (· / g)).sum * g = L.sum:=by
        clear h1 h2 h3
        induction L with
        | nil => simp
        | cons a L ih => rw [List.map_cons,List.sum_cons,List.sum_cons,Nat.add_mul,ih fun x hx => hd x (List.mem_cons_of_mem _ hx),Nat.div_mul_cancel (hd a List.mem_cons_self)]
      rw [h2] at this
      exact Nat.eq_of_mul_eq_mul_right hg this
theorem isB.scale {S:List Nat} {g n:Nat} {o:Option Nat} (hg:0 < g) (hS:∀ s ∈ S,g ∣ s):isB (S.map (· / g)) n o ↔ isB S (n * g) o:=by
  cases o with
  | none => exact ⟨fun h k hk => h k ((Sums.scale hg hS).mpr hk),fun h k hk => h k ((Sums.scale hg hS).mp hk)⟩
  | some k => exact ⟨fun h => ⟨(Sums.scale hg hS).mp h.1,fun j hj => h.2 j ((Sums.scale hg hS).mpr hj)⟩,fun h => ⟨(Sums.scale hg hS).mpr h.1,fun j hj => h.2 j ((Sums.scale hg hS).mp hj)⟩⟩
theorem Grd.scale {S:List Nat} {g n:Nat} {L:List Nat} (hg:0 < g) (hS:∀ s ∈ S,g ∣ s) (h:Grd (S.map (· / g)) n L):Grd S (n * g) (L.map (· * g)):=by
  induction h with
  | nil => rw [Nat.zero_mul]; exact .nil
  | @cons n s k L a b c d e f _ ih =>
    obtain ⟨s0,hs0,rfl⟩:=List.mem_map.mp a
    have e0:s0 / g * g = s0:=Nat.div_mul_cancel (hS s0 hs0)
    have e1:(n - s0 / g) * g = n * g - s0:=by rw [Nat.sub_mul,e0]
    show Grd S (n * g) (s0 / g * g :: L.map (· * g))
    refine .cons (k:=k) (by rw [e0]; exact hs0) (by exact Nat.mul_le_mul_right g b) (by exact Nat.mul_pos c hg) ((isB.scale hg hS).mp d) ?_ (fun s' hs' hl' h' => ?_) ?_
    . have:=(isB.scale hg hS).mp e
      rw [e1] at this
      rw [e0]; exact this
    . have e2:s' / g * g = s':=Nat.div_mul_cancel (hS s' hs')
      have h1:s' / g <= n:=by
        have:s' / g * g <= n * g:=by rw [e2]; exact hl'
        exact Nat.le_of_mul_le_mul_right this hg
      have:=f (s' / g) (List.mem_map.mpr ⟨s',hs',rfl⟩) h1 ((isB.scale hg hS).mpr (by rw [Nat.sub_mul,e2]; exact h'))
      have:=Nat.mul_le_mul_right g this
      rw [e2] at this
      exact this
    . rw [e0,← e1]; exact ih
theorem isB.perm {S S':List Nat} (h:∀ x,x ∈ S ↔ x ∈ S') {n:Nat} {o:Option Nat} (q:isB S n o):isB S' n o:=by
  have e:∀ k,Sums S n k ↔ Sums S' n k:=fun k => ⟨fun ⟨L,a,b⟩ => ⟨L,fun x hx => (h x).mp (a x hx),b⟩,fun ⟨L,a,b⟩ => ⟨L,fun x hx => (h x).mpr (a x hx),b⟩⟩
  cases o with
  | none => exact fun k hk => q k ((e k).mpr hk)
  | some k => exact ⟨(e k).mp q.1,fun j hj => q.2 j ((e j).mpr hj)⟩
theorem Grd.perm {S S':List Nat} (h:∀ x,x ∈ S ↔ x ∈ S') {n:Nat} {L:List Nat} (q:Grd S n L):Grd S' n L:=by
  induction q with
  | nil => exact .nil
  | cons a b c d e f _ ih => exact .cons ((h _).mp a) b c (d.perm h) (e.perm h) (fun s' hs' hl' h' => f s' ((h _).mpr hs') hl' (h'.perm fun x => (h x).symm)) ih
noncomputable def gcdL:List Nat -> Nat
  | [] => 0
  | x :: xs => Nat.gcd x (gcdL xs)
theorem gcdL_dvd:∀ {L:List Nat} {x:Nat},x ∈ L -> gcdL L ∣ x
  | y :: L,x,h => by
    rcases List.mem_cons.mp h with e | e
    . rw [e]; exact Nat.gcd_dvd_left ..
    . exact Nat.dvd_trans (Nat.gcd_dvd_right ..) (gcdL_dvd e)
theorem gcdL_pos:∀ {L:List Nat} {x:Nat},x ∈ L -> 0 < x -> 0 < gcdL L
  | y :: L,x,h,hx => by
    rcases List.mem_cons.mp h with e | e
    . exact Nat.gcd_pos_of_pos_left _ (e ▸ hx)
    . exact Nat.gcd_pos_of_pos_right _ (gcdL_pos e hx)
theorem gcdL_mul (c:Nat):∀ L:List Nat,gcdL (L.map (· * c)) = gcdL L * c
  | [] => by simp [gcdL]
  | x :: L => by rw [List.map_cons]; show Nat.gcd (x * c) (gcdL (L.map (· * c))) = _; rw [gcdL_mul c L,Nat.gcd_mul_right]; rfl
theorem gcdL_snoc:∀ (L:List Nat) (x:Nat),gcdL (L ++ [x]) = Nat.gcd (gcdL L) x
  | [],x => by show Nat.gcd x 0 = Nat.gcd 0 x; rw [Nat.gcd_comm]
  | y :: L,x => by show Nat.gcd y (gcdL (L ++ [x])) = Nat.gcd (Nat.gcd y (gcdL L)) x; rw [gcdL_snoc L x,Nat.gcd_assoc]
theorem unit_div {ms ts:List Nat} {u W:Nat} (hu:0 < u) (hW:0 < W) (h:ts.map (· * u) = ms.map (· * W)) (hp:∃ m ∈ ms,0 < m):ts.map (· / gcdL ts) = ms.map (· / gcdL ms):=by
  obtain ⟨m0,hm0,hp⟩:=hp
  have hgm:0 < gcdL ms:=gcdL_pos hm0 hp
  have eg:gcdL ts * u = gcdL ms * W:=by rw [← gcdL_mul,← gcdL_mul,h]
  have hgt:0 < gcdL ts:=by
    rcases Nat.eq_zero_or_pos (gcdL ts) with z | z
    . rw [z,Nat.zero_mul] at eg
      have:=Nat.mul_pos hgm hW
      omega
    . exact z
  have hl:ts.length = ms.length:=by have:=congrArg List.length h; simpa using this
  apply List.ext_getElem (by simp [hl])
  intro i h1 h2
  rw [List.getElem_map,List.getElem_map]
  have h1':i < ts.length:=by simpa using h1
  have h2':i < ms.length:=by simpa using h2
  have e:ts[i] * u = ms[i] * W:=by
    have:=congrArg (fun l => l[i]?) h
    simp only [List.getElem?_map,List.getElem?_eq_getElem h1',List.getElem?_eq_getElem h2',Option.map_some] at this
    exact Option.some.inj this
  have d1:gcdL ts ∣ ts[i]:=gcdL_dvd (List.getElem_mem h1')
  have d2:gcdL ms ∣ ms[i]:=gcdL_dvd (List.getElem_mem h2')
  obtain ⟨a,ha⟩:=d1
  obtain ⟨b,hb⟩:=d2
  rw [ha,hb,Nat.mul_div_cancel_left _ hgt,Nat.mul_div_cancel_left _ hgm]
  rw [ha,hb] at e
  have:a * (gcdL ts * u) = b * (gcdL ms * W):=by
    rw [← Nat.mul_assoc,← Nat.mul_assoc,Nat.mul_comm a,Nat.mul_comm b]; exact e
  rw [eg] at this
  exact Nat.eq_of_mul_eq_mul_right (Nat.mul_pos hgm hW) this
theorem lcm_step {x b B:Int} (hx:0 < x) (hb:0 < b) (h1:x ∣ B) (h2:b ∣ B):0 < x.fdiv (Int.gcd x b) * b /\ x.fdiv (Int.gcd x b) * b ∣ B /\ x ∣ x.fdiv (Int.gcd x b) * b /\ b ∣ x.fdiv (Int.gcd x b) * b:=by
  obtain ⟨n,rfl⟩:∃ n:Nat,x = n:=⟨x.toNat,by omega⟩
  obtain ⟨m,rfl⟩:∃ m:Nat,b = m:=⟨b.toNat,by omega⟩
  have hn:0 < n:=by omega
  have hm:0 < m:=by omega
  have e:((n:Int).fdiv (Int.gcd n m)) * (m:Int) = ((n.lcm m:Nat):Int):=by
    rw [show Int.gcd (n:Int) (m:Int) = Nat.gcd n m from rfl,show (n:Int).fdiv (Nat.gcd n m:Int) = ((n / Nat.gcd n m:Nat):Int) by rw [Int.fdiv_eq_ediv_of_nonneg _ (Int.natCast_nonneg _)]; rfl,← Int.natCast_mul]
    congr 1
    unfold Nat.lcm
    exact Nat.div_mul_right_comm (Nat.gcd_dvd_left n m) m
  rw [e]
  refine ⟨by exact_mod_cast Nat.lcm_pos hn hm,?_,by exact_mod_cast Nat.dvd_lcm_left n m,by exact_mod_cast Nat.dvd_lcm_right n m⟩
  rw [← Int.natAbs_dvd_natAbs] at h1 h2 ⊢
  rw [Int.natAbs_natCast] at h1 h2 ⊢
  exact Nat.lcm_dvd h1 h2
noncomputable def tmF (u:Int×Int) (m:Nat):Int×Int:=(lowT (u.1 * m) u.2,lowB (u.1 * m) u.2)
structure UnO (u:Int×Int):Prop where
  p1:0 < u.1
  p2:0 < u.2
  s1:u.1 < 2 ^ 60
  s2:u.2 < 2 ^ 60
theorem UnO.tm {u:Int×Int} (h:UnO u) (m:Nat):0 < (tmF u m).2 /\ (tmF u m).2 ∣ u.2 /\ (tmF u m).1 * u.2 = u.1 * m * (tmF u m).2 /\ 0 <= (tmF u m).1 /\ (tmF u m).1 <= u.1 * m:=by
  have h2:=h.p2
  have h0:u.2 ≠ 0:=by omega
  have e1:=lowT_mul (t:=u.1 * m) h0
  have e2:=lowB_mul (t:=u.1 * m) h0
  have hb:0 < lowB (u.1 * m) u.2:=lowB_pos h0
  have hs:0 < sg (u.1 * m) u.2:=by
    unfold sg
    rw [if_neg (by omega)]
    have:=gcd_pos (t:=u.1 * m) h0
    omega
  have ht:0 <= u.1 * m:=Int.mul_nonneg (Int.le_of_lt h.p1) (Int.natCast_nonneg _)
  have h3:0 <= lowT (u.1 * m) u.2:=by
    rcases Int.lt_or_le (lowT (u.1 * m) u.2) 0 with q | q
    . have:=Int.mul_neg_of_neg_of_pos q hs
      omega
    . exact q
  refine ⟨hb,⟨_,e2.symm⟩,?_,h3,?_⟩
  . show lowT (u.1 * m) u.2 * u.2 = u.1 * m * lowB (u.1 * m) u.2
    calc lowT (u.1 * m) u.2 * u.2 = lowT (u.1 * m) u.2 * (lowB (u.1 * m) u.2 * sg (u.1 * m) u.2):=by rw [e2]
      _ = lowT (u.1 * m) u.2 * sg (u.1 * m) u.2 * lowB (u.1 * m) u.2:=by rw [Int.mul_comm (lowB _ _),Int.mul_assoc]
      _ = _:=by rw [e1]
  . show lowT (u.1 * m) u.2 <= u.1 * m
    have:=Int.mul_le_mul_of_nonneg_left (show 1 <= sg (u.1 * m) u.2 by omega) h3
    rw [e1] at this
    omega
noncomputable def tpV (D:Int) (fs:List (Int×Int)):List Int:=fs.map fun f => f.1 * D.fdiv f.2
theorem tp_eq {u:Int×Int} (h:UnO u) {D:Int} {m:Nat} (hd:(tmF u m).2 ∣ D):(tmF u m).1 * D.fdiv (tmF u m).2 * u.2 = m * (u.1 * D):=by
  obtain ⟨h1,_,h3,_⟩:=h.tm m
  obtain ⟨d,rfl⟩:=hd
  rw [Int.mul_fdiv_cancel_left _ (by omega)]
  calc (tmF u m).1 * d * u.2 = (tmF u m).1 * u.2 * d:=by rw [Int.mul_assoc,Int.mul_comm d,← Int.mul_assoc]
    _ = u.1 * m * (tmF u m).2 * d:=by rw [h3]
    _ = _:=by rw [Int.mul_comm u.1,Int.mul_assoc,Int.mul_assoc]
theorem tp_le {u:Int×Int} (h:UnO u) {D:Int} {m m':Nat} (hD:0 < D) (hd:(tmF u m).2 ∣ D) (hd':(tmF u m').2 ∣ D) (hl:(tmF u m).1 * D.fdiv (tmF u m).2 <= (tmF u m').1 * D.fdiv (tmF u m').2):m <= m':=by
  have e1:=tp_eq h hd
  have e2:=tp_eq h hd'
  have h3:=Int.mul_le_mul_of_nonneg_right hl (Int.le_of_lt h.p2)
  rw [e1,e2] at h3
  have h4:=Int.le_of_mul_le_mul_right h3 (Int.mul_pos h.p1 hD)
  omega
theorem tp_nn {u:Int×Int} (h:UnO u) {D:Int} {m:Nat} (hD:0 < D) (hd:(tmF u m).2 ∣ D):0 <= (tmF u m).1 * D.fdiv (tmF u m).2:=by
  obtain ⟨h1,_,h3,h4,_⟩:=h.tm m
  obtain ⟨d,rfl⟩:=hd
  rw [Int.mul_fdiv_cancel_left _ (by omega)]
  have:0 < d:=by
    rcases Int.lt_or_le 0 d with q | q
    . exact q
    . have:=Int.mul_nonpos_of_nonneg_of_nonpos (Int.le_of_lt h1) q
      omega
  exact Int.mul_nonneg h4 (Int.le_of_lt this)
theorem tm_sm {u:Int×Int} (hu:UnO u) {m:Nat} (hm:m <= 100000):Sm 100 (tmF u m).1:=by
  obtain ⟨a1,a2,a3,a4,a5⟩:=hu.tm m
  refine Sm.of (by omega) ?_
  have h3:=hu.s1
  have h4:u.1 * m <= 2 ^ 60 * 100000:=Int.mul_le_mul (Int.le_of_lt h3) (by omega) (by omega) (by decide)
  show (tmF u m).1 < ((2 ^ 100:Nat):Int)
  omega
theorem tm_zero {u:Int×Int} (hu:UnO u):tmF u 0 = (0,1):=by
  have h2:=hu.p2
  have e1:u.1 * ((0:Nat):Int) = 0:=by simp
  unfold tmF
  rw [e1]
  obtain ⟨a,b⟩:=low_of (t:=0) (b:=u.2) (f:=0) (g:=1) (by omega) (by decide) rfl (by simp)
  rw [← a,← b]
end L2
namespace L2
open PySem PySem.Spec PyProof.Rows
noncomputable def rMinL:List V -> Hp -> VK -> Prop:=fun vs H Q => ∃ (p:Addr) (xs:List Int),vs = [.ref p] /\ H p = some (.lst (xs.map V.int)) /\ xs ≠ [] /\ ∀ m ∈ xs,(∀ y ∈ xs,m <= y) -> Q (.int m) H
theorem c_minL {X:Cx} (hc:X.calm = true):CallR X (.builtin "min") rMinL:=by
  intro pins s σ H vs us Q I r h
  obtain ⟨p,xs,rfl,hp,hne,q⟩:=h
  obtain ⟨u,rfl,rx⟩:=vals1 r
  cases rx
  obtain ⟨its,rl,pl,_⟩:=I.list (SqL.of hp)
  have hI:=ints_vals rl
  have hlen:its.length = xs.length:=by rw [← rl.length,List.length_map]
  have hL:s.heap.IsList p its.toArray:=pl.isList
  have hlt:p < s.heap.objs.size:=by obtain ⟨_,_,e,_⟩:=pl; exact Heap.lt_size e
  have hpos:0 < xs.length:=List.length_pos_iff.mpr hne
  have at':∀ i v,its.toArray[i]? = some v -> ∃ t,v = Value.int (xs.getD i 0) t:=fun i v e => by
    have e':its[i]? = some v:=by simpa using e
    have hi:i < xs.length:=by rw [← hlen]; exact (List.getElem?_eq_some_iff.mp e').1
    obtain ⟨t,et⟩:=hI.get (i:=i) (n:=xs[i]) (List.getElem?_eq_getElem hi)
    rw [e'] at et
    exact ⟨t,by rw [List.getD_eq_getElem?_getD,List.getElem?_eq_getElem hi]; exact Option.some.inj et⟩
  refine call_min_walk (wpAny_pyIter_list hL ?_)
  refine ⟨_,[_,p],[_],_,_,_,_,rfl,Walks.list (A:=X.A.in1) (I.ok.hd hc) _ p (Nat.ne_of_lt hlt) its.toArray,⟨⟨_,Heap.get?_push_size _ rfl,rfl,rfl⟩,hL.push _⟩,fun c hc => ?_,by rw [List.size_toArray]; omega,CmpOf.ints_lt (fun i => xs.getD i 0) at',fun v h' tk hP hk => ?_⟩
  . show c < (s.heap.push _).objs.size
    rw [Heap.size_push]
    rcases List.mem_cons.mp hc with rfl | hc
    . exact Nat.lt_succ_self _
    . rcases List.mem_cons.mp hc with rfl | hc
      . exact Nat.lt_succ_of_lt hlt
      . cases hc
  . have hold:∀ c o,s.heap.get? c = some o -> h'.get? c = some o:=fun c o e => by
      refine hk c o (fun hm => ?_) (Heap.get?_push_of_some _ e)
      rcases List.mem_cons.mp hm with e1 | hm
      . have:=Heap.lt_size e
        rw [e1] at this
        exact Nat.lt_irrefl _ this
      . cases hm
    obtain ⟨t,rfl⟩:=at' _ _ hP
    obtain ⟨b1,b2⟩:=argBest_lt (fun i => xs.getD i 0) (its.toArray.size - 1)
    rw [List.size_toArray,hlen] at b1 b2
    rw [List.size_toArray,hlen]
    have hk':argBest (fun i j => decide (xs.getD i 0 < xs.getD j 0)) (xs.length - 1) < xs.length:=by omega
    refine ⟨.int _,H,I.kept hold,⟨_,rfl⟩,q _ ?_ fun y hy => ?_⟩
    . rw [List.getD_eq_getElem?_getD,List.getElem?_eq_getElem hk']
      exact List.getElem_mem hk'
    . obtain ⟨j,hj⟩:=List.getElem?_of_mem hy
      have hj':j < xs.length:=(List.getElem?_eq_some_iff.mp hj).1
      have:=b2 j (by omega)
      have ey:xs.getD j 0 = y:=by rw [List.getD_eq_getElem?_getD,hj]; rfl
      rw [ey] at this
      exact this
theorem r_minL {H:Hp} {Q:VK} {p:Addr} {xs:List Int} (h:H p = some (.lst (xs.map V.int))) (hne:xs ≠ []) (k:∀ m ∈ xs,(∀ y ∈ xs,m <= y) -> Q (.int m) H):rMinL [.ref p] H Q:=⟨p,xs,rfl,h,hne,k⟩
noncomputable def oV:Option Nat -> V
  | none => .non
  | some k => .int k
noncomputable def FxQ (H:Hp) (v:V) (f:Int×Int):Prop:=∃ q,v = .ref q /\ H q = some (.tup [.int f.1,.int f.2])
theorem FxQ.kp {H H':Hp} {T:Addr} {ps:Array Value} {v:V} {f:Int×Int} (h:FxQ H v f) (k:Kp T H H') (hT:H T = some (.tbl ps)):FxQ H' v f :=
  let ⟨q,e,g⟩:=h; ⟨q,e,k _ _ (ne_of g hT (by intro z; cases z)) g⟩
theorem FxQ.same {H H':Hp} {v:V} {f:Int×Int} (h:FxQ H v f) (k:Same H H'):FxQ H' v f:=let ⟨q,e,g⟩:=h; ⟨q,e,k _ _ g⟩
theorem r_noNI {H:Hp} {Q:VK} {i:Int} (k:Q (.bl true) H):rNotN (.int i) .non H Q:=⟨rfl,k⟩
theorem e_NI {H:Hp} {Q:VK} {i:Int} (k:Q (.bl false) H):rEqA .non (.int i) H Q:=.inl ⟨rfl,by rw [show decide (V.non = V.int i) = false from decide_eq_false (by intro z; cases z)]; exact k⟩
theorem pd_rev {α β:Type} {F:α -> β -> Prop}:∀ {l:List α} {m:List β},Paired F l m -> Paired F l.reverse m.reverse
  | _,_,.nil => .nil
  | _,_,.cons r t => by rw [List.reverse_cons,List.reverse_cons]; exact Pd.snoc (pd_rev t) r
noncomputable def rNeLS:R2:=fun x y H Q => ∃ p xs z,x = .ref p /\ y = .str z /\ H p = some (.lst xs) /\ Q (.bl true) H
theorem op_neLS {X:Cx} (hu:X.A.units + 64 < cLine):OpR X (compareOp .NotEq) rNeLS:=by
  intro pins s σ H x y v u Q I rx ry h
  obtain ⟨p,xs,z,rfl,rfl,hp,q⟩:=h
  cases rx
  obtain ⟨t,rfl⟩:=ry
  obtain ⟨its,r,hl⟩:=lst_at I hp
  exact SeqAt.RcNeAt.list_str z t hl (by omega) _ _ _ _ ⟨.bl _,H,I,rfl,q⟩
noncomputable def rNeM:R2:=fun x y H Q => rNeA x y H Q ∨ rNeLS x y H Q
theorem op_neM {X:Cx} (hu:X.A.units + 64 < cLine):OpR X (compareOp .NotEq) rNeM:=(op_neA hu).or (op_neLS hu)
theorem r_neM1 {x y:V} {H:Hp} {Q:VK} (k:rNeA x y H Q):rNeM x y H Q:=.inl k
theorem r_neM2 {p:Addr} {xs:List V} {z:Str} {H:Hp} {Q:VK} (h:H p = some (.lst xs)) (k:Q (.bl true) H):rNeM (.ref p) (.str z) H Q:=.inr ⟨p,xs,z,rfl,rfl,h,k⟩
noncomputable def fxD (fs:List (Int×Int)):List Dt:=fs.map fun f => .tup [.int f.1,.int f.2]
theorem denL_fx {H:Hp}:∀ {vs:List V} {fs:List (Int×Int)},Paired (FxQ H) vs fs -> DenL H (fxD fs) vs
  | _,_,.nil => rfl
  | _,_,.cons ⟨q,e,h⟩ t => by subst e; exact ⟨_,_,rfl,den2 h,denL_fx t⟩
theorem den_fx {H:Hp} {l:Addr} {fs:List (Int×Int)} (h:LQ FxQ H l fs):Den H (.lst (fxD fs)) (.ref l):=let ⟨vs,a,b⟩:=h; ⟨l,vs,rfl,a,denL_fx b⟩
theorem fxD_eq:∀ fs:List (Int×Int),deqL (fxD fs) (fxD fs) = true
  | [] => rfl
  | f :: fs => by
    show (deq (.tup [.int f.1,.int f.2]) (.tup [.int f.1,.int f.2]) && deqL (fxD fs) (fxD fs)) = true
    rw [fxD_eq fs]
    show (deqL [.int f.1,.int f.2] [.int f.1,.int f.2] && true) = true
    rw [deq2]; simp
theorem fxD_dep:∀ fs:List (Int×Int),depL (fxD fs) <= 1
  | [] => by decide
  | f :: fs => by
    show max (dep (.tup [.int f.1,.int f.2])) (depL (fxD fs)) <= 1
    have:=fxD_dep fs
    have e:dep (.tup [.int f.1,.int f.2]) = 1:=rfl
    omega
theorem n_fx {H:Hp} {Q:VK} {l m:Addr} {fs:List (Int×Int)} (h1:LQ FxQ H l fs) (h2:LQ FxQ H m fs) (k:Q (.bl false) H):rNeA (.ref l) (.ref m) H Q :=
  n_lst (den_fx h1) (den_fx h2) (by have:=fxD_dep fs; omega) (by rw [fxD_eq]; exact k)
end L2
namespace L2
open PySem PySem.Spec PyProof.Rows
noncomputable abbrev lmB (q1 q2 q3:Pos):Expr:=.Subscript (.Name "pair" q1) (.Constant (.int 0) 0 q2) q3
noncomputable abbrev lmP (q0:Pos):Arguments:={ posonlyargs:=[],args:=[{ arg:="pair",annotation:=none,pos:=q0 }],vararg:=none,kwonlyargs:=[],kw_defaults:=[],kwarg:=none,defaults:=[] }
noncomputable abbrev lmS:Scope:={ kind:=.function,names:=[("pair",.local)],isGenerator:=false,isCoroutine:=false,more:=[] }
section
variable {prog:Program} {w:World} {A:Around} {s:Shared}
theorem lam_call {E:Value -> Shared -> Prop} {f c r:Addr} {name qual:Str} {pm ct:Value} {q0 q1 q2 q3:Pos} {x y:Value} (hroom:A.depth < recursionLimit) (lim:s.heap.NoLimit)
    (ho:s.heap.get? f = some (PySem.W.kla_obj name qual (lmP q0) (lmB q1 q2 q3) lmS [] pm c ct)) (hc:s.heap.CodeRec (.ref c) qual) (ht:IsTup s.heap r #[x,y]) :
    wpAny (model prog w) A (call (.ref f) [.ref r]) (fun v s' => v = x /\ ∃ h' tk,s' = { s with heap:=h',toks:=tk } /\ ∀ b o,s.heap.get? b = some o -> h'.get? b = some o) E s:=by
  refine wpAny_call (PySem.W.kla_callFunE hroom ho rfl rfl rfl rfl hc ?_)
  rw [show bindArgs (PySem.W.kla_fn name qual (lmP q0) (lmB q1 q2 q3) lmS [] pm (.ref c) ct) ⟨[.ref r],[]⟩ = (pure [("pair",Value.ref r)]:Sem (List (Str×Value))) from rfl]
  refine wpAny_pure (wpAny_newFunctionEnv (show ∀ x ∈ lmS.names,x.2 ≠ NameKind.cell by decide) (fun x hx => by rw [List.mem_singleton.mp hx]; rfl) (fun h₁ hns hsb => ?_) rfl)
  have hk:∀ b o,s.heap.get? b = some o -> h₁.get? b = some o:=fun b o e => hsb.extBut b o (Nat.ne_of_lt (Heap.lt_size e)) (Heap.get?_push_of_some _ e)
  refine ⟨lim.keeps hk,PySem.W.kla_codeExpr ?_⟩
  refine Subscript_ (wpAny_Name (wpAny_loadName_local rfl rfl hns rfl ?_) (by decide))
  refine wpAny_Constant_int ?_
  have ht':IsTup h₁ r #[x,y]:=let ⟨o,e,q⟩:=ht; ⟨o,hk _ _ e,q⟩
  refine subscriptTail_builtinR (x:=x) ht'.typeIs slot_tuple_getitem.lookup (getItem_tuple (j:=0) ht' (by decide) (by decide) rfl rfl ⟨rfl,rfl,h₁,_,rfl,hk⟩) rfl
end
noncomputable abbrev ZpM (h:Heap) (z TI TO:Addr) (f0:Value) (b:Bool):Prop:=h.get? z = some { cls:=.type "zip",dict:=none,data:=.fields #[f0,.bool b,.bool false,.ref TI,.ref TO],slots:=#[] }
structure ZpL (h:Heap) (z TI TO i1 i2 l1 l2:Addr) (k:Nat) (xs ys:Array Value):Prop where
  zp:∃ f0 b,ZpM h z TI TO f0 b /\ ((k = 0 /\ f0 = .none /\ b = false) ∨ (1 <= k /\ ∃ (T:Addr) (o:Obj),f0 = rawInt T /\ h.get? T = some o /\ T ≠ z /\ T ≠ TO /\ T ≠ i1 /\ T ≠ i2))
  ti:IsPair h TI (.ref i1) (.ref i2)
  to:∃ a b,IsPair h TO a b
  p1:h.IsListIter i1 l1 k
  p2:h.IsListIter i2 l2 k
  q1:h.IsList l1 xs
  q2:h.IsList l2 ys
section
open Sem (wp)
variable {prog:Program} {w:World} {A:Around} {E:Value -> Shared -> Prop} {s:Shared} {z TI TO i1 i2 l1 l2:Addr} {k:Nat} {xs ys:Array Value}
theorem ZpL.keep {h h':Heap} (Z:ZpL h z TI TO i1 i2 l1 l2 k xs ys) (kp:∀ b o,h.get? b = some o -> h'.get? b = some o):ZpL h' z TI TO i1 i2 l1 l2 k xs ys:=by
  obtain ⟨⟨f0,b0,gz,hf⟩,gTI,⟨a,b,gTO⟩,g1,g2,t1,t2⟩:=Z
  refine ⟨⟨f0,b0,kp _ _ gz,?_⟩,kp _ _ gTI,⟨a,b,kp _ _ gTO⟩,g1.at fun o e => kp _ o e,g2.at fun o e => kp _ o e,t1.at fun o e => kp _ o e,t2.at fun o e => kp _ o e⟩
  rcases hf with hf | ⟨h1,T,oT,e1,gT,nT⟩
  . exact .inl hf
  . exact .inr ⟨h1,T,oT,e1,kp _ _ gT,nT⟩
theorem zalive {a:Addr} {o:Obj} {Q:Option Obj -> Shared -> Prop} (ho:s.heap.get? a = some o) (h:Q (some o) s):wpAny (model prog w) A (loadIfAlive a) Q E s:=fun Γ p _ => by
  show wp _ _ (.loadIfAlive a .pure) _ _ _ _
  rw [Sem.wp_loadIfAlive,ho]
  exact h
theorem zfree_no {T:Addr} {o:Obj} {b:Bool} {Q:Bool -> Shared -> Prop} (gz:ZpM s.heap z TI TO (rawInt T) b) (gT:s.heap.get? T = some o)
    (k:∀ h',h'.objs.size = s.heap.objs.size -> (∀ c o,c ≠ z -> s.heap.get? c = some o -> h'.get? c = some o) -> ZpM h' z TI TO (rawInt T) true -> Q false { s with heap:=h' }):wpAny (model prog w) A (Builtin.SmallTypes.ownedTupleIsFree (.ref z)) Q E s:=by
  unfold Builtin.SmallTypes.ownedTupleIsFree
  refine wpAny_bind (wpAny_field gz rfl (x:=rawInt T) rfl ?_)
  show wpAny _ _ (loadIfAlive ((T:Int).toNat) >>= _) _ _ _
  refine wpAny_bind (zalive (o:=o) (by rw [Int.toNat_natCast]; exact gT) ?_)
  rw [if_neg (by simp)]
  refine wpAny_bind (wpAny_field gz rfl (x:=.bool b) rfl ?_)
  cases b with
  | true =>
    rw [if_neg (by decide)]
    exact wpAny_pure (k _ rfl (fun _ _ _ e => e) gz)
  | false =>
    rw [if_pos (by decide)]
    exact wpAny_bind (wpAny_setField_rec gz (by simp) fun m1 gz1 c1 => wpAny_pure (k m1 c1.1 (fun c o n e => c1.extBut _ _ n e) gz1))
theorem zpL_item {x y:Value} {Q:Value -> Shared -> Prop} (D:ZipApart z TI TO i1 i2 l1 l2) (Z:ZpL s.heap z TI TO i1 i2 l1 l2 k xs ys) (hx:xs[k]? = some x) (hy:ys[k]? = some y)
    (hQ:∀ h',ZpL h' z TI TO i1 i2 l1 l2 (k + 1) xs ys -> IsPair h' s.heap.objs.size x y -> h'.objs.size = s.heap.objs.size + 1 ->
      (∀ c o,c ≠ z -> c ≠ TO -> c ≠ i1 -> c ≠ i2 -> s.heap.get? c = some o -> h'.get? c = some o) -> Q (.ref s.heap.objs.size) { s with heap:=h' }) :
    wpAny (model prog w) A (Builtin.«zip.__next__» ⟨[.ref z],[]⟩) (fun fin s' => ∃ v,fin = .done (.ret v) /\ Q v s') E s:=by
  obtain ⟨⟨f0,b0,gz,hf⟩,gTI,⟨a,b,gTO⟩,g1,g2,t1,t2⟩:=Z
  have lz:=Heap.lt_size gz
  have lTO:=Heap.lt_size gTO
  have li1:i1 < s.heap.objs.size:=by obtain ⟨_,e,_⟩:=g1; exact Heap.lt_size e
  have li2:i2 < s.heap.objs.size:=by obtain ⟨_,e,_⟩:=g2; exact Heap.lt_size e
  have nw:∀ {c:Addr},c < s.heap.objs.size -> s.heap.objs.size ≠ c:=fun h => Nat.ne_of_gt h
  rcases hf with ⟨rfl,rfl,rfl⟩ | ⟨k1,T,oT,rfl,gT,nT⟩
  . refine zip_next_item D gz gTI gTO g1 g2 t1 t2 hx hy fun h' a1 a2 a3 a4 a5 a6 a7 => ?_
    exact hQ h' ⟨⟨_,_,a1,.inr ⟨Nat.le_refl _,_,_,rfl,a5,nw lz,nw lTO,nw li1,nw li2⟩⟩,a7 _ _ D.TIz D.TITO D.TIi1 D.TIi2 gTI,⟨_,_,a2⟩,a3,a4,t1.at fun o e => a7 _ o D.l1z D.l1TO D.l1i1 D.l1i2 e,t2.at fun o e => a7 _ o D.l2z D.l2TO D.l2i1 D.l2i2 e⟩ a5 a6 a7
  . show wpAny _ _ (field (.ref z) 2 >>= _) _ _ _
    refine wpAny_bind (wpAny_field gz rfl (x:=.bool false) rfl ?_)
    show wpAny _ _ (field (.ref z) 3 >>= _) _ _ _
    refine wpAny_bind (wpAny_field gz rfl (x:=.ref TI) rfl ?_)
    refine wpAny_bind (wpAny_seqItems gTI rfl ?_)
    show wpAny _ _ (Builtin.SmallTypes.ownedTupleIsFree (.ref z) >>= _) _ _ _
    refine wpAny_bind (zfree_no gz gT fun m0 e0 kp0 gz0 => ?_)
    rw [if_neg (by decide)]
    simp only [← Array.forIn_toList,List.forIn_cons,List.forIn_nil]
    refine wpAny_bind (wpAny_bind (wpAny_bind (wpAny_holding ?_)))
    show wpAny _ _ (Builtin.SmallTypes.nextOf (.ref i1) >>= _) _ _ _
    refine wpAny_bind (wpAny_nextOf_list_item (g1.at fun o e => kp0 _ o D.i1z e) (t1.at fun o e => kp0 _ o D.l1z e) hx fun m1 g11 c1 => wpAny_pure (wpAny_pure ?_))
    refine wpAny_bind (wpAny_bind (wpAny_holding ?_))
    show wpAny _ _ (Builtin.SmallTypes.nextOf (.ref i2) >>= _) _ _ _
    refine wpAny_bind (wpAny_nextOf_list_item (g2.at fun o e => c1.extBut _ o D.i12.symm (kp0 _ o D.i2z e)) (t2.at fun o e => c1.extBut _ o D.l2i1 (kp0 _ o D.l2z e)) hy fun m2 g22 c2 => wpAny_pure (wpAny_pure (wpAny_pure ?_)))
    refine wpAny_bind (wpAny_newTuple (wpAny_pure ⟨_,rfl,?_⟩) (by show 2 <= sizeLine; decide))
    have e2:m2.objs.size = s.heap.objs.size:=by rw [c2.1,c1.1,e0]
    have up:∀ c o,c ≠ z -> c ≠ i1 -> c ≠ i2 -> s.heap.get? c = some o -> (m2.push { cls:=.type "tuple",data:=.seq #[x,y] }).get? c = some o:=fun c o n1 n2 n3 e => Heap.get?_push_of_some _ (c2.extBut _ _ n3 (c1.extBut _ _ n2 (kp0 _ _ n1 e)))
    have gp:IsPair (m2.push { cls:=.type "tuple",data:=.seq #[x,y] }) m2.objs.size x y:=Heap.get?_push_size _ rfl
    have gz2:ZpM (m2.push { cls:=.type "tuple",data:=.seq #[x,y] }) z TI TO (rawInt T) true:=Heap.get?_push_of_some _ (c2.extBut _ _ D.i2z.symm (c1.extBut _ _ D.i1z.symm gz0))
    have e3:(m2.push { cls:=.type "tuple",data:=.seq #[x,y] }).objs.size = m2.objs.size + 1:=Heap.size_push ..
    show Q (.ref m2.objs.size) { s with heap:=m2.push { cls:=.type "tuple",data:=.seq #[x,y] } }
    have r1:(m2.push { cls:=.type "tuple",data:=.seq #[x,y] }).IsListIter i1 l1 (k + 1):=g11.at fun o e => Heap.get?_push_of_some _ (c2.extBut _ o D.i12 e)
    have r2:(m2.push { cls:=.type "tuple",data:=.seq #[x,y] }).IsListIter i2 l2 (k + 1):=g22.at fun o e => Heap.get?_push_of_some _ e
    generalize m2.push { cls:=.type "tuple",data:=.seq #[x,y] } = m3 at up gp gz2 e3 r1 r2 ⊢
    rw [e2] at gp e3 ⊢
    exact hQ m3 ⟨⟨_,_,gz2,.inr ⟨Nat.succ_pos _,T,oT,rfl,up _ _ nT.1 nT.2.2.1 nT.2.2.2 gT,nT⟩⟩,up _ _ D.TIz D.TIi1 D.TIi2 gTI,⟨_,_,up _ _ D.TOz D.TOi1 D.TOi2 gTO⟩,r1,r2,t1.at fun o e => up _ o D.l1z D.l1i1 D.l1i2 e,t2.at fun o e => up _ o D.l2z D.l2i1 D.l2i2 e⟩ gp e3 fun c o n1 _ n3 n4 e => up c o n1 n3 n4 e
theorem zpL_end {Q:PySem.Fin -> Shared -> Prop} (hh:A.handled = none) (D:ZipApart z TI TO i1 i2 l1 l2) (Z:ZpL s.heap z TI TO i1 i2 l1 l2 k xs ys) (hx:xs[k]? = none)
    (hE:∀ h' e,(∀ c o,c ≠ z -> c ≠ TO -> c ≠ i1 -> c ≠ i2 -> s.heap.get? c = some o -> h'.get? c = some o) -> (∃ o,h'.get? e = some o /\ o.cls = .type "StopIteration") -> E (.ref e) { s with heap:=h' }) :
    wpAny (model prog w) A (Builtin.«zip.__next__» ⟨[.ref z],[]⟩) Q E s:=by
  obtain ⟨⟨f0,b0,gz,hf⟩,gTI,⟨a,b,gTO⟩,g1,g2,t1,t2⟩:=Z
  rcases hf with ⟨rfl,rfl,rfl⟩ | ⟨_,T,oT,rfl,gT,nT⟩
  . exact zip_next_end hh D gz gTI gTO g1 g2 t1 t2 (.inl hx) hE
  show wpAny _ _ (field (.ref z) 2 >>= _) _ _ _
  refine wpAny_bind (wpAny_field gz rfl (x:=.bool false) rfl ?_)
  show wpAny _ _ (field (.ref z) 3 >>= _) _ _ _
  refine wpAny_bind (wpAny_field gz rfl (x:=.ref TI) rfl (wpAny_bind (wpAny_seqItems gTI rfl ?_)))
  show wpAny _ _ (Builtin.SmallTypes.ownedTupleIsFree (.ref z) >>= _) _ _ _
  refine wpAny_bind (zfree_no gz gT fun m0 e0 kp0 gz0 => ?_)
  rw [if_neg (by decide)]
  simp only [← Array.forIn_toList,List.forIn_cons,List.forIn_nil]
  refine wpAny_bind (wpAny_bind (wpAny_bind (wpAny_holding ?_)))
  show wpAny _ _ (Builtin.SmallTypes.nextOf (.ref i1) >>= _) _ _ _
  refine wpAny_bind (wpAny_nextOf_list_end hh (g1.at fun o e => kp0 _ o D.i1z e) (t1.at fun o e => kp0 _ o D.l1z e) hx fun m1 e c1 he => ?_)
  exact hE m1 e (fun c o n1 _ n3 _ x => c1 _ _ n3 (kp0 _ _ n1 x)) he
theorem nextZL_item {x y:Value} {Q:Option Value -> Shared -> Prop} (D:ZipApart z TI TO i1 i2 l1 l2) (Z:ZpL s.heap z TI TO i1 i2 l1 l2 k xs ys) (hx:xs[k]? = some x) (hy:ys[k]? = some y)
    (hQ:∀ h',ZpL h' z TI TO i1 i2 l1 l2 (k + 1) xs ys -> IsPair h' s.heap.objs.size x y -> h'.objs.size = s.heap.objs.size + 1 ->
      (∀ c o,c ≠ z -> c ≠ TO -> c ≠ i1 -> c ≠ i2 -> s.heap.get? c = some o -> h'.get? c = some o) -> Q (some (.ref s.heap.objs.size)) { s with heap:=h' }) :
    wpAny (model prog w) A (pyNext (.ref z)) Q E s:=by
  have hT:s.TypeIs (.ref z) "zip":=by
    obtain ⟨⟨f0,b0,gz,hf⟩,_⟩:=Z
    exact ⟨_,gz,rfl⟩
  unfold pyNext
  refine wpAny_bind (wpAny_attempt (wpAny_callSpecial?_slot (name:=Str.ofString "__next__") hT F.slot_zip_next (wpAny_call_entry F.slot_zip_next hT F.entry_zip_next ?_ (F.args_zip_next_1 _))))
  exact zpL_item D Z hx hy fun h' a1 a2 a3 a4 => wpAny_pure (hQ h' a1 a2 a3 a4)
theorem nextZL_end {Q:Option Value -> Shared -> Prop} (hh:A.handled = none) (D:ZipApart z TI TO i1 i2 l1 l2) (Z:ZpL s.heap z TI TO i1 i2 l1 l2 k xs ys) (hx:xs[k]? = none)
    (hQ:∀ h',(∀ c o,c ≠ z -> c ≠ TO -> c ≠ i1 -> c ≠ i2 -> s.heap.get? c = some o -> h'.get? c = some o) -> Q none { s with heap:=h' }):wpAny (model prog w) A (pyNext (.ref z)) Q E s:=by
  have hT:s.TypeIs (.ref z) "zip":=by
    obtain ⟨⟨f0,b0,gz,hf⟩,_⟩:=Z
    exact ⟨_,gz,rfl⟩
  unfold pyNext
  refine wpAny_bind (wpAny_attempt (wpAny_callSpecial?_slot (name:=Str.ofString "__next__") hT F.slot_zip_next (wpAny_call_entry F.slot_zip_next hT F.entry_zip_next ?_ (F.args_zip_next_1 _))))
  refine zpL_end hh D Z hx fun h' e kp he => ?_
  obtain ⟨o,ho,hc⟩:=he
  exact wpAny_bind (wpAny_isInstance (T:="StopIteration") (b:=true) ⟨o,ho,hc⟩ isSubtype_stop (wpAny_pure (hQ _ kp)))
noncomputable def PrsAt (xs ys:Array Value) (n0:Nat) (h:Heap) (ts:List Addr):Prop:=ts.Nodup /\ ∀ (j:Nat) (t:Addr),ts[j]? = some t -> n0 <= t /\ ∃ x y,xs[j]? = some x /\ ys[j]? = some y /\ IsPair h t x y
theorem zip_ext {R:Result -> Shared -> Prop} {S:Addr} {n0:Nat} {res:Value} (hh:A.handled = none) (D:ZipApart z TI TO i1 i2 l1 l2) (nS:S ≠ z /\ S ≠ TI /\ S ≠ TO /\ S ≠ i1 /\ S ≠ i2 /\ S ≠ l1 /\ S ≠ l2) (hl:xs.size = ys.size) (hz:xs.size <= 1000) (hn0:z < n0 /\ TO < n0 /\ i1 < n0 /\ i2 < n0 /\ S < n0) :
    ∀ (n i:Nat) (h:Heap) (tk:Nat) (acc:Array Value) (c:Nat) (ts:List Addr),xs.size - i = n -> i <= xs.size -> n0 <= h.objs.size -> ZpL h z TI TO i1 i2 l1 l2 i xs ys -> h.get? S = some { cls:=.type "list",dict:=none,data:=.seq acc c,slots:=#[] } -> acc.toList = ts.map Value.ref -> ts.length = i -> PrsAt xs ys n0 h ts ->
      (∀ b o,s.heap.get? b = some o -> b ≠ z -> b ≠ TO -> b ≠ i1 -> b ≠ i2 -> b ≠ S -> h.get? b = some o) ->
      (∀ h' tk' acc' c' ts',h'.get? S = some { cls:=.type "list",dict:=none,data:=.seq acc' c',slots:=#[] } -> acc'.toList = ts'.map Value.ref -> ts'.length = xs.size -> PrsAt xs ys n0 h' ts' ->
        (∀ b o,s.heap.get? b = some o -> b ≠ z -> b ≠ TO -> b ≠ i1 -> b ≠ i2 -> b ≠ S -> h'.get? b = some o) -> R (.ok (.ret res)) { s with heap:=h',toks:=tk' }) ->
      codeAny (model prog w) A (.builtin "list.extend.loop" ⟨[.ref S,.ref z,res],[]⟩) R { s with heap:=h,toks:=tk }:=by
  intro n
  induction n with
  | zero =>
    intro i h tk acc c ts hn hi hs0 Z hS ha ht hp kp hR
    have:i = xs.size:=by omega
    subst this
    refine codeAny_builtin F.entry_extend_loop ?_
    rw [Around.under_plainId F.plain_extend_loop _]
    show wpAny _ A.in1 (pyNext (.ref z) >>= _) _ _ _
    refine wpAny_bind (nextZL_end (by simpa using hh) D Z (by simp) fun h' eb => ?_)
    have up:∀ t,n0 <= t -> t ≠ z /\ t ≠ TO /\ t ≠ i1 /\ t ≠ i2:=fun t q => ⟨Nat.ne_of_gt (Nat.lt_of_lt_of_le hn0.1 q),Nat.ne_of_gt (Nat.lt_of_lt_of_le hn0.2.1 q),Nat.ne_of_gt (Nat.lt_of_lt_of_le hn0.2.2.1 q),Nat.ne_of_gt (Nat.lt_of_lt_of_le hn0.2.2.2.1 q)⟩
    refine wpAny_pure (hR h' tk acc c ts (eb _ _ nS.1 nS.2.2.1 nS.2.2.2.1 nS.2.2.2.2.1 hS) ha ht ⟨hp.1,fun j t e => ?_⟩ fun b o e n1 n2 n3 n4 n5 => eb b o n1 n2 n3 n4 (kp b o e n1 n2 n3 n4 n5))
    obtain ⟨q,x,y,e1,e2,e3⟩:=hp.2 j t e
    obtain ⟨u1,u2,u3,u4⟩:=up t q
    exact ⟨q,x,y,e1,e2,eb _ _ u1 u2 u3 u4 e3⟩
  | succ n ih =>
    intro i h tk acc c ts hn hi hs0 Z hS ha ht hp kp hR
    have hlt:i < xs.size:=by omega
    refine codeAny_builtin F.entry_extend_loop ?_
    rw [Around.under_plainId F.plain_extend_loop _]
    show wpAny _ A.in1 (pyNext (.ref z) >>= _) _ _ _
    obtain ⟨x,hx⟩:∃ v,xs[i]? = some v:=⟨_,Array.getElem?_eq_getElem hlt⟩
    obtain ⟨y,hy⟩:∃ v,ys[i]? = some v:=⟨_,Array.getElem?_eq_getElem (show i < ys.size by omega)⟩
    refine wpAny_bind (nextZL_item D Z hx hy fun h' Z' gp sz' kz => ?_)
    dsimp only at Z' gp sz' kz
    have hS':h'.get? S = _:=kz _ _ nS.1 nS.2.2.1 nS.2.2.2.1 nS.2.2.2.2.1 hS
    have hacc:acc.size = i:=by rw [← Array.length_toList,ha,List.length_map,ht]
    show wpAny _ A.in1 (updateSeq S (·.push (.ref h.objs.size)) >>= _) _ _ _
    refine wpAny_bind ?_
    have up:∀ t,n0 <= t -> t ≠ z /\ t ≠ TO /\ t ≠ i1 /\ t ≠ i2 /\ S ≠ t:=fun t q => ⟨Nat.ne_of_gt (Nat.lt_of_lt_of_le hn0.1 q),Nat.ne_of_gt (Nat.lt_of_lt_of_le hn0.2.1 q),Nat.ne_of_gt (Nat.lt_of_lt_of_le hn0.2.2.1 q),Nat.ne_of_gt (Nat.lt_of_lt_of_le hn0.2.2.2.1 q),Nat.ne_of_lt (Nat.lt_of_lt_of_le hn0.2.2.2.2 q)⟩
    have ndp:(ts ++ [h.objs.size]).Nodup:=List.nodup_append.mpr ⟨hp.1,by simp,fun a ha b hb e => by
      rw [List.mem_singleton.mp hb] at e
      obtain ⟨j,hj⟩:=List.getElem?_of_mem ha
      obtain ⟨_,_,_,_,_,e3⟩:=hp.2 j a hj
      exact Nat.ne_of_lt (Heap.lt_size e3) e⟩
    have o2:∀ b o,b ≠ S -> h'.get? b = some o -> (h'.update S (Obj.mapSeq (·.push (.ref h.objs.size)))).get? b = some o:=fun b o n e => (Heap.get?_update_other _ _ (Ne.symm n)).trans e
    have Z2:ZpL (h'.update S (Obj.mapSeq (·.push (.ref h.objs.size)))) z TI TO i1 i2 l1 l2 (i + 1) xs ys:=by
      obtain ⟨⟨f0,b0,gz,hf⟩,gTI,⟨a,b,gTO⟩,g1,g2,t1,t2⟩:=Z'
      refine ⟨⟨f0,b0,o2 _ _ nS.1.symm gz,?_⟩,o2 _ _ nS.2.1.symm gTI,⟨a,b,o2 _ _ nS.2.2.1.symm gTO⟩,g1.at fun o e => o2 _ o nS.2.2.2.1.symm e,g2.at fun o e => o2 _ o nS.2.2.2.2.1.symm e,t1.at fun o e => o2 _ o nS.2.2.2.2.2.1.symm e,t2.at fun o e => o2 _ o nS.2.2.2.2.2.2.symm e⟩
      rcases hf with ⟨h0,_⟩ | ⟨h1,T,oT,e1,gT,nT⟩
      . exact absurd h0 (Nat.succ_ne_zero _)
      . by_cases eT:T = S
        . subst eT
          exact .inr ⟨h1,T,_,e1,Heap.get?_update_self _ hS' rfl,nT⟩
        . exact .inr ⟨h1,T,oT,e1,o2 _ _ eT gT,nT⟩
    refine wpAny_updateSeq hS' rfl (wpAny_pure ⟨plainId_quiet F.plain_extend_loop _,ih (i + 1) _ tk (acc.push (.ref h.objs.size)) _ (ts ++ [h.objs.size]) (by omega) hlt (by rw [Heap.size_update,sz']; omega) Z2 (Heap.get?_update_self _ hS' rfl) (by rw [Array.toList_push,ha,List.map_append]; rfl) (by simp [ht]) ⟨ndp,fun j t e => ?_⟩ (fun b o e n1 n2 n3 n4 n5 => o2 _ _ n5 (kz b o n1 n2 n3 n4 (kp b o e n1 n2 n3 n4 n5))) hR⟩)
      (by rw [hacc,sizeLine_eq]; omega) (by show (acc.push (.ref h.objs.size)).size <= sizeLine + 1; rw [Array.size_push,hacc,sizeLine_eq]; omega)
    rcases Nat.lt_or_ge j ts.length with hj | hj
    . rw [List.getElem?_append_left hj] at e
      obtain ⟨q,x',y',e1,e2,e3⟩:=hp.2 j t e
      obtain ⟨u1,u2,u3,u4,u5⟩:=up t q
      exact ⟨q,x',y',e1,e2,o2 _ _ u5.symm (kz _ _ u1 u2 u3 u4 e3)⟩
    . rw [List.getElem?_append_right hj] at e
      have hj0:j - ts.length = 0:=by
        rcases Nat.eq_zero_or_pos (j - ts.length) with z0 | z0
        . exact z0
        . rw [List.getElem?_eq_none (by simp only [List.length_singleton]; exact z0)] at e; cases e
      rw [hj0] at e
      cases e
      have:j = i:=by omega
      subst this
      exact ⟨hs0,x,y,hx,hy,o2 _ _ (up _ hs0).2.2.2.2.symm gp⟩
theorem zip_no_len:typeLookup (.type "zip") "__len__" = pure none:=by rw [typeLookup_type,builtinLookup_eq_fast]; kernel_rfl
theorem zip_no_hint:typeLookup (.type "zip") "__length_hint__" = pure none:=by rw [typeLookup_type,builtinLookup_eq_fast]; kernel_rfl
theorem collect_zip {Q:List Value -> Shared -> Prop} (hh:A.handled = none) (D:ZipApart z TI TO i1 i2 l1 l2) (Z:ZpL s.heap z TI TO i1 i2 l1 l2 0 xs ys) (hl:xs.size = ys.size) (hz:xs.size <= 1000)
    (h:∀ h' tk ts,s.heap.objs.size <= h'.objs.size -> ts.length = xs.size -> PrsAt xs ys s.heap.objs.size h' ts -> (∀ b o,s.heap.get? b = some o -> b ≠ z -> b ≠ TO -> b ≠ i1 -> b ≠ i2 -> h'.get? b = some o) -> Q (ts.map Value.ref) { s with heap:=h',toks:=tk }) :
    wpAny (model prog w) A (collect (.ref z)) Q E s:=by
  unfold collect
  refine wpAny_bind (wpAny_runValue (codeAny_builtin F.entry_proto_collect ?_))
  rw [Around.under_plainId F.plain_proto_collect _]
  show wpAny _ A.in1 (newList [] >>= fun l => again (.builtin "list.__iadd__" ⟨[l,.ref z],[]⟩)) _ _ s
  refine wpAny_bind (wpAny_newObj_type ?_)
  refine wpAny_pure ⟨plainId_quiet F.plain_list_iadd _,codeAny_builtin F.entry_list_iadd ?_⟩
  rw [Around.under_plainId F.plain_list_iadd _]
  have kp0:∀ b o,s.heap.get? b = some o -> (s.heap.push { cls:=.type "list",data:=.seq ([]:List Value).toArray }).get? b = some o:=fun b o e => Heap.get?_push_of_some _ e
  have hS₁:(s.heap.push { cls:=.type "list",data:=.seq ([]:List Value).toArray }).get? s.heap.objs.size = some { cls:=.type "list",data:=.seq ([]:List Value).toArray }:=Heap.get?_push_size _ rfl
  have sz1:(s.heap.push { cls:=.type "list",data:=.seq ([]:List Value).toArray }).objs.size = s.heap.objs.size + 1:=Heap.size_push ..
  have Z1:=Z.keep kp0
  have lt:∀ {c:Addr} {o:Obj},s.heap.get? c = some o -> s.heap.objs.size ≠ c:=fun e => Nat.ne_of_gt (Heap.lt_size e)
  obtain ⟨⟨f0,b0,gz,hf⟩,gTI,⟨a,b,gTO⟩,⟨o1,e1,r1⟩,⟨o2,e2,r2⟩,⟨o3,e3,r3⟩,⟨o4,e4,r4⟩⟩:=id Z
  have h1:Builtin.List.listSameRef (.ref s.heap.objs.size) (.ref z) = false:=by simp [Builtin.List.listSameRef,lt gz]
  have hT:Shared.TypeIs { s with heap:=s.heap.push { cls:=.type "list",data:=.seq ([]:List Value).toArray } } (.ref z) "zip":=⟨_,kp0 _ _ gz,rfl⟩
  show wpAny _ A.in1 (Builtin.List.listExtendWith (.ref s.heap.objs.size) (.ref z) (.ref s.heap.objs.size)) _ _ _
  unfold Builtin.List.listExtendWith
  refine wpAny_bind (wpAny_typeOf hT ?_)
  rw [if_neg (by rw [h1]; decide)]
  refine wpAny_bind (wpAny_pyIter_slot hT F.slot_zip_iter (wpAny_call_entry F.slot_zip_iter hT F.entry_zip_iter (show wpAny _ _ (ret (.ref z)) _ _ _ from wpAny_pure ⟨_,rfl,"zip",_,hT,F.slot_zip_next.lookup,?_⟩) (F.args_zip_iter_1 _)))
  refine wpAny_bind (wpAny_holding ?_)
  unfold Builtin.List.listLengthHint
  refine wpAny_bind (wpAny_specialOf hT zip_no_len ?_)
  show wpAny _ A.in1 (specialOf (Value.ref z) (Str.ofString "__length_hint__") >>= _) _ _ _
  refine wpAny_bind (wpAny_specialOf hT zip_no_hint ?_)
  refine wpAny_pure ?_
  show wpAny _ A.in1 (rule "list.extend.makes-room" >>= fun _ => Builtin.List.listTouch (.ref s.heap.objs.size) >>= fun _ =>
    again (.builtin "list.extend.loop" ⟨[.ref s.heap.objs.size,.ref z,.ref s.heap.objs.size],[]⟩)) _ _ _
  refine wpAny_bind (wpAny_rule (wpAny_bind ?_))
  show wpAny _ A.in1 (updateSeq s.heap.objs.size (·.push .none) >>= fun _ => updateSeq s.heap.objs.size (·.pop)) _ _ _
  refine wpAny_bind (wpAny_updateSeq hS₁ rfl ?_)
  have hS₂:=Heap.get?_update_self (Obj.mapSeq (·.push Value.none)) hS₁ rfl
  refine wpAny_updateSeq hS₂ rfl ?_
  have hS₃:=Heap.get?_update_self (Obj.mapSeq (·.pop)) hS₂ rfl
  have oth:∀ b o,s.heap.get? b = some o ->
      (((s.heap.push { cls:=.type "list",data:=.seq ([]:List Value).toArray }).update s.heap.objs.size (Obj.mapSeq (·.push Value.none))).update s.heap.objs.size (Obj.mapSeq (·.pop))).get? b = some o :=
    fun b o e => (Heap.get?_update_other _ _ (lt e)).trans ((Heap.get?_update_other _ _ (lt e)).trans (kp0 _ _ e))
  have sz3:(((s.heap.push { cls:=.type "list",data:=.seq ([]:List Value).toArray }).update s.heap.objs.size (Obj.mapSeq (·.push Value.none))).update s.heap.objs.size (Obj.mapSeq (·.pop))).objs.size = s.heap.objs.size + 1:=by rw [Heap.size_update,Heap.size_update,sz1]
  refine wpAny_pure ⟨plainId_quiet F.plain_extend_loop _,?_⟩
  refine zip_ext (A:=A) (s:=s) (S:=s.heap.objs.size) (n0:=s.heap.objs.size + 1) (by simpa using hh) D ⟨lt gz,lt gTI,lt gTO,lt e1,lt e2,lt e3,lt e4⟩ hl hz ⟨Nat.lt_succ_of_lt (Heap.lt_size gz),Nat.lt_succ_of_lt (Heap.lt_size gTO),Nat.lt_succ_of_lt (Heap.lt_size e1),Nat.lt_succ_of_lt (Heap.lt_size e2),Nat.lt_succ_self _⟩ xs.size 0 _ s.toks #[] _ [] rfl (Nat.zero_le _) (by rw [sz3]; exact Nat.le_refl _) (Z.keep oth) hS₃ rfl rfl ⟨List.nodup_nil,fun j t e => by simp at e⟩ (fun b o e _ _ _ _ _ => oth _ _ e) fun h' tk' acc' c' ts' g1 g2 g3 g4 g5 => ?_
  show wpAny _ A (load s.heap.objs.size >>= _) _ _ _
  refine wpAny_bind (wpAny_load g1 ?_)
  refine wpAny_pure ?_
  rw [g2]
  exact h h' tk' ts' (Nat.le_of_lt (Heap.lt_size g1)) g3 ⟨g4.1,fun j t e => let ⟨q,r⟩:=g4.2 j t e; ⟨Nat.le_of_succ_le q,r⟩⟩ fun b o e n1 n2 n3 n4 => g5 b o e n1 n2 n3 n4 (Nat.ne_of_lt (Heap.lt_size e))
end
section
variable {prog:Program} {w:World} {A:Around} {E:Value -> Shared -> Prop} {s:Shared} {z TI TO i1 i2 l1 l2:Addr} {xs ys:Array Value}
theorem sorted_zip {Q:Value -> Shared -> Prop} {f c L:Addr} {m:Str -> Option Value} {name qual:Str} {pm ct:Value} {q0 q1 q2 q3:Pos} {kz:List Int} (hh:A.handled = none) (hroom:A.depth < recursionLimit)
    (lim:∀ h:Heap,(∀ b o,s.heap.get? b = some o -> b ≠ L -> b ≠ z -> b ≠ TO -> b ≠ i1 -> b ≠ i2 -> h.get? b = some o) -> h.NoLimit) (hL:s.heap.Ns L m) (nL:L ≠ z /\ L ≠ TO /\ L ≠ i1 /\ L ≠ i2)
    (ho:s.heap.get? f = some (PySem.W.kla_obj name qual (lmP q0) (lmB q1 q2 q3) lmS [] pm c ct)) (hc:s.heap.CodeRec (.ref c) qual) (nf:f ≠ L /\ f ≠ z /\ f ≠ TO /\ f ≠ i1 /\ f ≠ i2) (nc:c ≠ L /\ c ≠ z /\ c ≠ TO /\ c ≠ i1 /\ c ≠ i2)
    (D:ZipApart z TI TO i1 i2 l1 l2) (Z:ZpL s.heap z TI TO i1 i2 l1 l2 0 xs ys) (hl:xs.size = ys.size) (h64:xs.size < 64) (hk:IntsAre xs.toList kz)
    (h:∀ R h' tk out c' ts ps,s.heap.objs.size <= R -> h'.Ns L m -> h'.get? R = some (seqObj "list" out c') -> ts.length = xs.size -> PrsAt xs ys s.heap.objs.size h' ts -> (ps:List (Int×Value)).Perm (kz.zip (ts.map Value.ref)) -> out.toList = ps.map Prod.snd -> ps.Pairwise (fun p q => p.1 <= q.1) -> (∀ t ∈ ts,t ≠ R) ->
      (∀ b o,s.heap.get? b = some o -> b ≠ L -> b ≠ z -> b ≠ TO -> b ≠ i1 -> b ≠ i2 -> h'.get? b = some o) -> Q (.ref R) { s with heap:=h',toks:=tk }) :
    wpAny (model prog w) A (call (.builtin "sorted") [.ref z] [(Str.ofString "key",.ref f)]) Q E s:=by
  refine call_function_entry_kw kind_sorted plain_sorted entry_sorted (ksk_s1 _ _) ?_
  unfold Builtin.«sorted»
  refine wpAny_bind (m:=checkCount "sorted" 1 1 _) (wpAny_pure ?_)
  refine wpAny_bind (collect_zip (by simpa using hh) D Z hl (by omega) fun h1 tk1 ts ge1 hts hp kp => ?_)
  have hsz:(ts.map Value.ref).length = xs.size:=by rw [List.length_map,hts]
  refine wpAny_bind (wpAny_newList ?_ (by rw [hsz,sizeLine_eq]; omega))
  have hoL:(h1.push (seqObj "list" (ts.map Value.ref).toArray 0)).get? h1.objs.size = some (seqObj "list" (ts.map Value.ref).toArray 0):=Heap.get?_push_size _ rfl
  have kp1:∀ b o,h1.get? b = some o -> (h1.push (seqObj "list" (ts.map Value.ref).toArray 0)).get? b = some o:=fun b o e => Heap.get?_push_of_some _ e
  have hL1:h1.Ns L m:=let ⟨o,es,ep,e,r⟩:=hL; ⟨o,es,ep,kp _ _ e nL.1 nL.2.1 nL.2.2.1 nL.2.2.2,r⟩
  have lt1:∀ {b:Addr} {o:Obj},h1.get? b = some o -> b ≠ h1.objs.size:=fun e => Nat.ne_of_lt (Heap.lt_size e)
  show wpAny _ _ _ _ _ { s with heap:=h1.push (seqObj "list" (ts.map Value.ref).toArray 0),toks:=tk1 }
  refine wpAny_bind (wpAny_holding (wpAny_call_entry_kw slot_list_sort ⟨_,hoL,rfl⟩ entry_list_sort ?body (ksk_l1 _ _)))
  case body =>
    show wpAny (model prog w) A.in1.in1 (Builtin.«list.sort» ⟨[.ref h1.objs.size],[(Str.ofString "key",.ref f)]⟩) _ _ _
    rw [ksk_t1]
    have N1:News (Att.noObjs s.heap) L (h1.push (seqObj "list" (ts.map Value.ref).toArray 0)) (Att.ledger h1 L L):=fun ⟨b,o⟩ hb => by
      obtain ⟨n1,_,e⟩:=Att.mem_ledger.mp hb
      exact ⟨kp1 _ _ e,n1,Att.noObjs_get _ _⟩
    have F1:Fr (Att.noObjs s.heap) L (h1.push (seqObj "list" (ts.map Value.ref).toArray 0)) m:=⟨let ⟨o,es,ep,e,r⟩:=hL1; ⟨o,es,ep,kp1 _ _ e,r⟩,fun b o e => (by rw [Att.noObjs_get] at e; cases e),Nat.zero_le _⟩
    have ofN:∀ {h:Heap} {own:List (Addr×Obj)},News (Att.noObjs s.heap) L h (Att.ledger h1 L L ++ own) -> ∀ b o,h1.get? b = some o -> b ≠ L -> h.get? b = some o:=fun N b o e n => (N (b,o) (List.mem_append_left _ (Att.mem_ledger.mpr ⟨n,n,e⟩))).1
    refine ksk_sort (s:={ s with heap:=h1.push (seqObj "list" (ts.map Value.ref).toArray 0),toks:=tk1 }) (h₀:=Att.noObjs s.heap) (L:=L) (m:=m) (news:=Att.ledger h1 L L) (kz:=kz) (b:=false) F1 N1 hoL (Ne.symm (lt1 hL1.choose_spec.choose_spec.choose_spec.1)) (Att.noObjs_get _ _) (fun ⟨b,o⟩ hb => lt1 (Att.mem_ledger.mp hb).2.2) (by rw [hsz,← hk.length,Array.length_toList]) (by rw [hsz]; exact h64) ?turn fun h' tk out c' F' N' k' => ⟨_,rfl,?_⟩
    case turn =>
      intro i v kk hv hkk g tk own Fg Ng
      have hg:=ofN Ng
      rw [List.getElem?_map] at hv
      obtain ⟨t,ht,rfl⟩:=Option.map_eq_some_iff.mp hv
      obtain ⟨gt,x,y,ex,ey,ep⟩:=hp.2 i t ht
      have tL:t ≠ L:=Nat.ne_of_gt (Nat.lt_of_lt_of_le hL.lt gt)
      obtain ⟨tt,rfl⟩:∃ tt,x = .int kk tt:=by
        have:=hk.get (i:=i) (n:=kk) hkk
        obtain ⟨tt,e⟩:=this
        rw [← Array.getElem?_toList] at ex
        rw [ex] at e
        exact ⟨tt,Option.some.inj e⟩
      have kpg:∀ b o,s.heap.get? b = some o -> b ≠ L -> b ≠ z -> b ≠ TO -> b ≠ i1 -> b ≠ i2 -> g.get? b = some o:=fun b o e n1 n2 n3 n4 n5 => hg _ _ (kp _ _ e n2 n3 n4 n5) n1
      have hc':g.CodeRec (.ref c) qual:=let ⟨c0,o,vs,tt,e0,e1,e2⟩:=hc; ⟨c0,o,vs,tt,e0,(by cases e0; exact kpg _ _ e1 nc.1 nc.2.1 nc.2.2.1 nc.2.2.2.1 nc.2.2.2.2),e2⟩
      refine wpAny_mono (lam_call (A:=A.in1.in1) (s:={ s with heap:=g,toks:=tk }) (E:=fun _ _ => False) hroom (lim g kpg) (kpg _ _ ho nf.1 nf.2.1 nf.2.2.1 nf.2.2.2.1 nf.2.2.2.2) hc' (⟨_,hg _ _ ep tL,rfl,_,rfl⟩:IsTup g t #[.int kk tt,y])) (fun v s' hq => ?_) fun _ _ q => q
      obtain ⟨rfl,h',tk',rfl,kk'⟩:=hq
      exact ⟨h',tk',tt,rfl,rfl,Fg.kept kk',Ng.grown kk'⟩
    . obtain ⟨ps,p1,p2,p3⟩:=k'
      have hg:∀ b o,h1.get? b = some o -> b ≠ L -> h'.get? b = some o:=fun b o e n => (N' (b,o) (List.mem_cons_of_mem _ (Att.mem_ledger.mpr ⟨n,n,e⟩))).1
      refine wpAny_pure ⟨_,rfl,h _ h' tk out c' ts ps ge1 F'.ns (N' _ List.mem_cons_self).1 hts ⟨hp.1,fun j t e => ?_⟩ p1 p2 (by simpa using p3) (fun t ht => ?_) fun b o e n1 n2 n3 n4 n5 => hg _ _ (kp _ _ e n2 n3 n4 n5) n1⟩
      . obtain ⟨gt,x,y,ex,ey,ep⟩:=hp.2 j t e
        exact ⟨gt,x,y,ex,ey,hg _ _ ep (Nat.ne_of_gt (Nat.lt_of_lt_of_le hL.lt gt))⟩
      . obtain ⟨j,hj⟩:=List.getElem?_of_mem ht
        obtain ⟨gt,x,y,ex,ey,ep⟩:=hp.2 j t hj
        exact lt1 ep
end
noncomputable def CodO (c:Addr) (qual:Str):HO:=.ext fun h => h.CodeRec (.ref c) qual
theorem codO_ok {P:Program} {w:World} {H:Hp} {h:Heap} {c:Addr} {qual:Str} (k:h.CodeRec (.ref c) qual):ObjOk P w H h c (CodO c qual) :=
  ⟨k,(let ⟨_,o,_,_,e0,e1,_⟩:=k; ⟨o,by cases e0; exact e1⟩),fun _ _ ⟨c0,o,vs,t,e0,e1,e2⟩ kp => ⟨c0,o,vs,t,e0,by cases e0; exact kp _ e1,e2⟩⟩
noncomputable def tb3 (pos:Pos) (c:Addr):Array Value:=#[rawInt pos.line,rawInt pos.col,.ref c]
noncomputable def LTab (T:Addr) (pos:Pos) (qual:Str) (H:Hp):Prop:=H T = some (.tbl #[]) ∨ ∃ c,H T = some (.tbl (tb3 pos c)) /\ H c = some (CodO c qual)
theorem LTab.same {T:Addr} {pos:Pos} {qual:Str} {H H':Hp} (t:LTab T pos qual H) (s:Same H H'):LTab T pos qual H':=by
  rcases t with t | ⟨c,t,u⟩
  . exact .inl (s _ _ t)
  . exact .inr ⟨c,s _ _ t,s _ _ u⟩
noncomputable def BmAt (mg:Str -> Option Value) (h:Heap):Prop:=∃ bm o,mg "__builtins__" = some (.ref bm) /\ bm ≠ builtinsNs /\ bm ≠ mainGlobals /\ h.get? bm = some o /\ o.cls = .type "module" /\ o.dict = some builtinsNs /\ o.data = .plain
structure LamAt (T:Addr) (lp q0 q1 q2 q3:Pos) (qual:Str) (H:Hp) (g h:Heap) (f c:Addr):Prop where
  kp:∀ b o,g.get? b = some o -> b ≠ T -> h.get? b = some o
  tb:h.get? T = some (PySem.W.tabObj (tb3 lp c))
  fn:∃ pm ct,h.get? f = some (PySem.W.kla_obj "<lambda>" qual (lmP q0) (lmB q1 q2 q3) lmS [] pm c ct)
  cd:h.CodeRec (.ref c) qual
  fge:g.objs.size <= f
  cs:(H T = some (.tbl #[]) /\ g.objs.size <= c) ∨ (H T = some (.tbl (tb3 lp c)) /\ H c = some (CodO c qual))
theorem among_hit (lp:Pos) (c:Addr):codeAmong lp (tb3 lp c).toList = some (.ref c):=by
  show (if ((lp.line:Int) == lp.line && (lp.col:Int) == lp.col) = true then some (Value.ref c) else _) = _
  rw [if_pos (by simp)]
theorem lam_made {X:Cx} {T c0:Addr} {lp q0 q1 q2 q3:Pos} {qual:Str} {pins:List (Addr×Obj)} {σ:St} {H:Hp} {s s2:Shared} {Q:Value -> Shared -> Prop} {E:Value -> Shared -> Prop} (I:Inv X pins σ H s) (kp:∀ b o,s.heap.get? b = some o -> s2.heap.get? b = some o)
    (hcd:X.env.code = .ref c0) (hK:PySem.W.codeHdIn X.K c0 T = true) (B:BmAt X.mg X.base) (hcl:closureFor lmS X.env = pure []) (hq:X.env.qual ++ "<lambda>" = qual) (hT:LTab T lp qual H)
    (k:∀ f c h tk,LamAt T lp q0 q1 q2 q3 qual H s2.heap h f c -> Q (.ref f) { s2 with heap:=h,toks:=tk }) :
    wpAny (model X.prog X.w) X.A (eval (.Lambda (lmP q0) (lmB q1 q2 q3) lmS lp) X.env) Q E s2:=by
  subst hq
  have gg:∀ b o,X.base.get? b = some o -> s2.heap.get? b = some o:=fun b o e => kp _ _ (I.bk b o e)
  have ns:s2.heap.Ns mainGlobals X.mg:=I.mod.glob.keeps gg
  have C:PySem.W.CodeHd s2.heap c0 T:=(PySem.W.codeHd_of_K I.mod.kin hK).keeps gg
  have tH:∃ ps,H T = some (.tbl ps):=by
    rcases hT with t | ⟨c,t,_⟩
    . exact ⟨_,t⟩
    . exact ⟨_,t⟩
  obtain ⟨ps0,tH⟩:=tH
  have gP0:s2.heap.get? T = some (PySem.W.tabObj ps0):=kp _ _ (show s.heap.get? T = some _ from I.hok T _ tH)
  have hb:s2.heap.BuiltinsAt X.mg T:=by
    obtain ⟨bm,o,b1,b2,b3,b4,b5⟩:=B
    exact ⟨bm,o,b1,b2,b3,fun e => (by have:=(I.bs _ _ b4).2; rw [e,tH] at this; cases this),gg _ _ b4,b5⟩
  have hgP:mainGlobals ≠ T:=fun q => by
    obtain ⟨o,es,ep,e,hd,_⟩:=ns
    rw [q,gP0] at e; cases e; cases hd
  refine PySem.W.kla_eval rfl ?_
  rcases hT with t | ⟨c,t,u⟩
  . have e0:ps0 = #[]:=by rw [t] at tH; cases tH; rfl
    subst e0
    refine PySem.W.kla_makeFunction (ps:=#[]) hcl I.ok.glob ns hcd C gP0 trivial rfl hgP hb fun c' ct h' tk hx hge hlt hrec htb => ?_
    refine k _ c' _ tk ⟨fun b o e n => Heap.get?_push_of_some _ (hx b o n e),Heap.get?_push_of_some _ htb,⟨_,ct,Heap.get?_push_size _ rfl⟩,hrec.push _,?_,.inl ⟨t,hge⟩⟩
    exact Nat.le_trans hge (Nat.le_of_lt hlt)
  . have e0:ps0 = tb3 lp c:=by rw [t] at tH; cases tH; rfl
    subst e0
    have hc:s2.heap.CodeRec (.ref c) (X.env.qual ++ "<lambda>"):=(show s.heap.CodeRec (.ref c) _ from (I.hok c _ u).1).keeps kp
    refine PySem.W.kla_makeFunctionHit hcl I.ok.glob ns hcd C gP0 trivial (among_hit lp c) hb fun ct h' tk hx hsz => ?_
    exact k _ c _ tk ⟨fun b o e n => Heap.get?_push_of_some _ (hx b o e),Heap.get?_push_of_some _ (hx _ _ gP0),⟨_,ct,Heap.get?_push_size _ rfl⟩,(hc.keeps hx).push _,hsz,.inr ⟨t,u⟩⟩
theorem perm_map_inv {α β:Type} {g:α -> β}:∀ {l:List β} {m:List β},l.Perm m -> ∀ {xs:List α},m = xs.map g -> ∃ ys:List α,ys.Perm xs /\ l = ys.map g:=by
  intro l m p
  induction p with
  | nil => intro xs e; exact ⟨xs,.refl _,e⟩
  | cons x p ih =>
    intro xs e
    cases xs with
    | nil => cases e
    | cons a xs =>
      obtain ⟨e1,e3⟩:=List.cons.inj e
      obtain ⟨ys,q,e2⟩:=ih e3
      exact ⟨a :: ys,q.cons a,by rw [e2,e1]; rfl⟩
  | swap x y l =>
    intro xs e
    cases xs with
    | nil => cases e
    | cons a xs =>
      cases xs with
      | nil => cases e
      | cons b xs =>
        obtain ⟨e1,e2⟩:=List.cons.inj e
        obtain ⟨e3,e4⟩:=List.cons.inj e2
        exact ⟨b :: a :: xs,List.Perm.swap _ _ _,by rw [e1,e3,e4]; rfl⟩
  | trans p q ihp ihq =>
    intro xs e
    obtain ⟨ys,q1,e1⟩:=ihq e
    obtain ⟨zs,q2,e2⟩:=ihp e1
    exact ⟨zs,q2.trans q1,e2⟩
theorem lookup_nd {α β:Type} [BEq α] [LawfulBEq α]:∀ {l:List (α×β)} {a:α} {b:β},(l.map (·.1)).Nodup -> (a,b) ∈ l -> l.lookup a = some b
  | [],_,_,_,h => nomatch h
  | (x,y) :: l,a,b,nd,h => by
    obtain ⟨n1,n2⟩:=List.nodup_cons.mp nd
    rcases List.mem_cons.mp h with e | h
    . cases e; simp [List.lookup]
    . have:a ≠ x:=fun e => n1 (e ▸ List.mem_map.mpr ⟨_,h,rfl⟩)
      rw [List.lookup_cons,beq_eq_false_iff_ne.mpr this]
      exact lookup_nd n2 h
theorem lookup_out {α β:Type} [BEq α] [LawfulBEq α]:∀ {l:List (α×β)} {a:α},a ∉ l.map (·.1) -> l.lookup a = none
  | [],_,_ => rfl
  | (x,y) :: l,a,h => by
    have:a ≠ x:=fun e => h (e ▸ List.mem_cons_self)
    rw [List.lookup_cons,beq_eq_false_iff_ne.mpr this]
    exact lookup_out fun q => h (List.mem_cons_of_mem _ q)
noncomputable def rSortBy (K:PySem.W.Frag) (T:Addr) (lp:Pos) (qual:Str):List V -> Hp -> VK -> Prop:=fun vs H Q => ∃ (p q:Addr) (ks:List Int) (xs:List V),vs = [.ref p,.ref q] /\ SqL K H p (ks.map V.int) /\ SqL K H q xs /\ ks.length = xs.length /\ ks.length < 64 /\ LTab T lp qual H /\
  ∀ (l:Addr) (G:Hp) (tr:List (Addr×(Int×V))),H l = none -> Kp T H G -> LTab T lp qual G -> G l = some (.lst (tr.map fun p => V.ref p.1)) -> (∀ p ∈ tr,G p.1 = some (.tup [.int p.2.1,p.2.2])) -> (tr.map (·.2)).Perm (ks.zip xs) -> tr.Pairwise (fun p q => p.2.1 <= q.2.1) -> Q (.ref l) G
theorem pe_sortBy {X:Cx} {a b:Expr} {t:TA} {c0 T:Addr} {p p2 pos pos2 q0 q1 q2 q3 lp kpos:Pos} {qual:Str} {kk:Nat} (hr:Room kk X.A) (hc:X.calm = true) (hgs:Gl X "sorted") (hms:X.mg "sorted" = none) (hg:Gl X "zip") (hm:X.mg "zip" = none)
    (hcd:X.env.code = .ref c0) (hK:PySem.W.codeHdIn X.K c0 T = true) (B:BmAt X.mg X.base) (hcl:closureFor lmS X.env = pure []) (hq:X.env.qual ++ "<lambda>" = qual) (ha:PA X [a,b] t)
    (he:starEach [.Call (.Name "zip" p2) [a,b] [] pos2] X.env = [(false,eval (.Call (.Name "zip" p2) [a,b] [] pos2) X.env)]) (hs:starEach [a,b] X.env = (false,eval a X.env) :: starEach [b] X.env) (hpl:(backTo pos2 (starEach [b] X.env)).any (·.1) = false) :
    PE X (.Call (.Name "sorted" p) [.Call (.Name "zip" p2) [a,b] [] pos2] [⟨some "key",.Lambda (lmP q0) (lmB q1 q2 q3) lmS lp,kpos⟩] pos) (tCB (rSortBy X.K T lp qual) t):=by
  intro pins s σ H Q I h
  refine wpAny_Call_Name_kw (ld_blt I hgs hms bt_sorted ?_ (by decide) (by decide))
  refine callWith_kw ?_
  show wpAny _ _ (spliced (backTo pos (starEach [.Call (.Name "zip" p2) [a,b] [] pos2] X.env))) _ _ s
  rw [he]
  show wpAny _ _ (spliced ((false,eval (.Call (.Name "zip" p2) [a,b] [] pos2) X.env) :: backTo pos [])) _ _ s
  refine Calls.spliced_cons ?_
  refine Call_ (ld_blt I hg hm bt_zip (PyProof.Rows.callWith_type1 (thn (ha pos2 pins s σ H _ I h) fun us s1 z => ?_) hs hpl))
  obtain ⟨vs,H1,I1,r1,p1,p2',ks,xs,e,ga,gb,hl,hn,hT,q⟩:=z
  subst e
  obtain ⟨u1,u2,rfl,ra,rb⟩:=r1.two
  cases ra
  cases rb
  obtain ⟨its,rv1,pl1,_⟩:=I1.list ga
  obtain ⟨jts,rv2,pl2,_⟩:=I1.list gb
  refine call_zip_2 pl1.isList pl2.isList fun m1 z1 z2 z3 z4 z5 e5 kp => ?_
  refine Calls.spliced_nil ?_
  have la:p1 < s1.heap.objs.size:=by obtain ⟨o,n,g,_⟩:=pl1; exact Heap.lt_size g
  have lb:p2' < s1.heap.objs.size:=by obtain ⟨o,n,g,_⟩:=pl2; exact Heap.lt_size g
  have Z0:ZpL m1 (s1.heap.objs.size + 4) (s1.heap.objs.size + 2) (s1.heap.objs.size + 3) s1.heap.objs.size (s1.heap.objs.size + 1) p1 p2' 0 its.toArray jts.toArray :=
    ⟨⟨_,_,z1,.inl ⟨rfl,rfl,rfl⟩⟩,z2,⟨_,_,z3⟩,z4,z5,pl1.isList.at fun o e => kp _ o e,pl2.isList.at fun o e => kp _ o e⟩
  have lL:=I1.lt
  have nT1:p1 ≠ T /\ p2' ≠ T:=by
    have tH:∃ ps,s1.heap.get? T = some (PySem.W.tabObj ps):=by
      rcases hT with t | ⟨c,t,_⟩
      . exact ⟨_,I1.hok T _ t⟩
      . exact ⟨_,I1.hok T _ t⟩
    obtain ⟨ps,tH⟩:=tH
    constructor
    . rintro rfl
      obtain ⟨o,n,g,gc,_⟩:=pl1
      rw [tH] at g; cases g; cases gc
    . rintro rfl
      obtain ⟨o,n,g,gc,_⟩:=pl2
      rw [tH] at g; cases g; cases gc
  have lT:T < s1.heap.objs.size:=by
    rcases hT with t | ⟨c,t,_⟩
    . exact I1.hok.lt t
    . exact I1.hok.lt t
  show wpAny _ _ (evalAll ((do let v ← eval (.Lambda (lmP q0) (lmB q1 q2 q3) lmS lp) X.env; standAt pos; pure v) :: [])) _ _ _
  refine wpAny_evalAll_cons (wpAny_bind (lam_made (s2:={ s1 with heap:=m1 }) I1 kp hcd hK B hcl hq hT fun f c h3 tk LA => wpAny_bind (wpAny_standAt (wpAny_pure ?_))))
  refine wpAny_evalAll_nil ?_
  have hN:∃ N,s1.heap.objs.size = N:=⟨_,rfl⟩
  obtain ⟨N,hN⟩:=hN
  have kp0:∀ b o,s1.heap.get? b = some o -> b < N:=fun b o e => hN ▸ Heap.lt_size e
  have fge:N + 5 <= f:=by have:=LA.fge; rw [e5,hN] at this; exact this
  have nn:∀ {c i:Nat},c < N -> c ≠ N + i:=fun h => Nat.ne_of_lt (Nat.lt_of_lt_of_le h (Nat.le_add_right _ _))
  have nf:∀ {d i:Nat},N + 5 <= d -> i < 5 -> d ≠ N + i:=fun h1 h2 e => absurd h1 (by rw [e]; omega)
  have ne:∀ {i j:Nat},i ≠ j -> N + i ≠ N + j:=fun h z => h (Nat.add_left_cancel z)
  have n0:∀ {i:Nat},0 < i -> N + i ≠ N:=fun h => Nat.ne_of_gt (Nat.lt_add_of_pos_right h)
  rw [hN] at Z0 la lb lL lT
  have D:ZipApart (N + 4) (N + 2) (N + 3) N (N + 1) p1 p2':=⟨ne (by decide),ne (by decide),(n0 (by decide)).symm,ne (by decide),ne (by decide),n0 (by decide),ne (by decide),n0 (by decide),ne (by decide),(n0 (by decide)).symm,nn la,nn la,Nat.ne_of_lt la,nn la,nn lb,nn lb,Nat.ne_of_lt lb,nn lb⟩
  have kpM:∀ b o,m1.get? b = some o -> b ≠ T -> h3.get? b = some o:=LA.kp
  have Z:ZpL h3 (N + 4) (N + 2) (N + 3) N (N + 1) p1 p2' 0 its.toArray jts.toArray:=by
    obtain ⟨⟨f0,b0,gz,hf⟩,gTI,⟨a,b,gTO⟩,g1,g2,t1,t2⟩:=Z0
    refine ⟨⟨f0,b0,kpM _ _ gz (Ne.symm (nn lT)),?_⟩,kpM _ _ gTI (Ne.symm (nn lT)),⟨a,b,kpM _ _ gTO (Ne.symm (nn lT))⟩,g1.at fun o e => kpM _ o e (Nat.ne_of_gt lT),g2.at fun o e => kpM _ o e (Ne.symm (nn lT)),t1.at fun o e => kpM _ o e nT1.1,t2.at fun o e => kpM _ o e nT1.2⟩
    rcases hf with hf | ⟨hk,_⟩
    . exact .inl hf
    . exact absurd hk (by decide)
  have cN:(N + 5 <= c) ∨ (c < N /\ c ≠ X.env.locals /\ H1 c = some (CodO c qual)):=by
    rcases LA.cs with ⟨_,g⟩ | ⟨_,g⟩
    . rw [e5,hN] at g; exact .inl g
    . exact .inr ⟨hN ▸ I1.hok.lt g,ne_of_none g I1.free,g⟩
  have cne:c ≠ X.env.locals /\ c ≠ N + 4 /\ c ≠ N + 3 /\ c ≠ N /\ c ≠ N + 1:=by
    rcases cN with g | ⟨g,g2,_⟩
    . exact ⟨Nat.ne_of_gt (Nat.lt_of_lt_of_le lL (Nat.le_trans (Nat.le_add_right _ _) g)),nf g (by decide),nf g (by decide),nf (i:=0) g (by decide),nf g (by decide)⟩
    . exact ⟨g2,nn g,nn g,Nat.ne_of_lt g,nn g⟩
  have fne:f ≠ X.env.locals /\ f ≠ N + 4 /\ f ≠ N + 3 /\ f ≠ N /\ f ≠ N + 1 :=
    ⟨Nat.ne_of_gt (Nat.lt_of_lt_of_le lL (Nat.le_trans (Nat.le_add_right _ _) fge)),nf fge (by decide),nf fge (by decide),nf (i:=0) fge (by decide),nf fge (by decide)⟩
  obtain ⟨pm,ct,gf⟩:=LA.fn
  obtain ⟨mL,hLn,hLl⟩:=id I1.loc
  have kp3:∀ b o,s1.heap.get? b = some o -> b ≠ T -> h3.get? b = some o:=fun b o e n => kpM _ _ (kp _ _ e) n
  have LT:X.env.locals ≠ T:=by
    rcases hT with t | ⟨c,t,_⟩
    . exact Ne.symm (ne_of_none t I1.free)
    . exact Ne.symm (ne_of_none t I1.free)
  have hL3:h3.Ns X.env.locals mL:=let ⟨o,es,ep,e,r⟩:=hLn; ⟨o,es,ep,kp3 _ _ e LT,r⟩
  have bT:∀ b o,X.base.get? b = some o -> b ≠ T /\ b ≠ X.env.locals /\ b < N /\ s1.heap.get? b = some o:=fun b o e => by
    have e2:=(I1.bs b o e)
    refine ⟨?_,?_,kp0 _ _ e2.1,e2.1⟩
    . rintro rfl
      rcases hT with t | ⟨c,t,_⟩
      . rw [t] at e2; cases e2.2
      . rw [t] at e2; cases e2.2
    . exact Nat.ne_of_lt (Nat.lt_of_lt_of_le (Heap.lt_size e) (Nat.le_trans I1.ok.bsz I1.ok.above))
  have le3:N + 5 <= h3.objs.size:=Nat.le_trans fge (Nat.le_of_lt (Heap.lt_size gf))
  have sz:∀ (l:List Value),l.toArray.size = l.length:=fun _ => rfl
  have lk:its.length = ks.length:=by rw [← rv1.length,List.length_map]
  have lx:jts.length = xs.length:=rv2.length.symm
  show wpAny _ _ (call (.builtin "sorted") [.ref (s1.heap.objs.size + 4)] [(Str.ofString "key",.ref f)]) _ _ _
  rw [hN]
  refine sorted_zip (s:={ s1 with heap:=h3,toks:=tk }) (L:=X.env.locals) (m:=mL) (kz:=ks) (I.ok.hd hc) (by have:=hr.dp; omega) (fun g kg => I1.mod.nolimit.keeps fun b o e => ?_) hL3 ⟨nn lL,nn lL,Nat.ne_of_lt lL,nn lL⟩ gf LA.cd fne cne D Z (by rw [sz,sz,lk,lx,hl]) (by rw [sz,lk]; exact hn) (show IntsAre its ks from ints_vals rv1) fun R h4 tk4 out c' ts ps gR gL gRo lts prs pp po psd tR kp4 => ?_
  . obtain ⟨a1,a2,a3,a4⟩:=bT b o e
    exact kg b o (kp3 _ _ a4 a1) a2 (nn a3) (nn a3) (Nat.ne_of_lt a3) (nn a3)
  dsimp only at gR gL gRo prs kp4
  have kpA:∀ b o,s1.heap.get? b = some o -> b ≠ T -> b ≠ X.env.locals -> h4.get? b = some o:=fun b o e n1 n2 => kp4 _ _ (kp3 _ _ e n1) n2 (nn (kp0 _ _ e)) (nn (kp0 _ _ e)) (Nat.ne_of_lt (kp0 _ _ e)) (nn (kp0 _ _ e))
  -- the triples
  have lt3:ts.length = ks.length:=by rw [lts,sz,lk]
  have ez:ks.zip (ts.map Value.ref) = (ts.zip (ks.zip xs)).map fun p => (p.2.1,Value.ref p.1):=by
    apply List.ext_getElem?
    intro i
    simp only [List.getElem?_zip_eq_some,List.getElem?_map,List.zip,List.getElem?_zipWith]
    rcases Nat.lt_or_ge i ks.length with hi | hi
    . rw [List.getElem?_eq_getElem hi,List.getElem?_eq_getElem (show i < ts.length by omega),List.getElem?_eq_getElem (show i < xs.length by omega)]
      rfl
    . rw [List.getElem?_eq_none hi,List.getElem?_eq_none (show ts.length <= i by omega)]
      rfl
  obtain ⟨tr,ptr,etr⟩:=perm_map_inv pp ez
  have fst_tr:(tr.map (·.1)).Perm ts:=by
    have:=ptr.map (·.1)
    rwa [List.map_fst_zip (by rw [List.length_zip,lt3,← hl]; exact Nat.le_of_eq (Nat.min_self _).symm)] at this
  have ndt:(tr.map (·.1)).Nodup:=fst_tr.nodup_iff.mpr prs.1
  have mem_tr:∀ p ∈ tr,N + 5 <= p.1 /\ p.1 ≠ R /\ p.1 ≠ c /\ ∃ x y,IsPair h4 p.1 x y /\ RelV (V.int p.2.1) x /\ RelV p.2.2 y:=fun p hp => by
    have hp':=ptr.mem_iff.mp hp
    obtain ⟨i,hi⟩:=List.getElem?_of_mem hp'
    rw [List.getElem?_zip_eq_some] at hi
    obtain ⟨h1,h2⟩:=hi
    rw [List.getElem?_zip_eq_some] at h2
    obtain ⟨ge,x,y,ex,ey,ep⟩:=prs.2 i p.1 h1
    obtain ⟨x',ex',rx⟩:=rv1.get (i:=i) (by rw [List.getElem?_map,h2.1]; rfl)
    obtain ⟨y',ey',ry⟩:=rv2.get (i:=i) h2.2
    have a1:its[i]? = some x:=by simpa using ex
    have a2:jts[i]? = some y:=by simpa using ey
    rw [a1] at ex'; cases ex'
    rw [a2] at ey'; cases ey'
    have cl:c < h3.objs.size:=by
      obtain ⟨_,o,_,_,e0,e1,_⟩:=LA.cd
      cases e0
      exact Heap.lt_size e1
    exact ⟨Nat.le_trans le3 ge,tR _ (List.mem_of_getElem? h1),Nat.ne_of_gt (Nat.lt_of_lt_of_le cl ge),x,y,ep,rx,ry⟩
  have cR:c ≠ R:=by
    obtain ⟨_,o,_,_,e0,e1,_⟩:=LA.cd
    cases e0
    exact Nat.ne_of_lt (Nat.lt_of_lt_of_le (Heap.lt_size e1) gR)
  have NR:N <= R:=Nat.le_trans (Nat.le_trans (Nat.le_add_right _ _) le3) gR
  let G:Hp:=fun b => if b = R then some (.lst (tr.map fun p => V.ref p.1)) else match tr.lookup b with
    | some p => some (.tup [.int p.1,p.2])
    | none => if b = T then some (.tbl (tb3 lp c)) else if b = c then some (CodO c qual) else H1 b
  have GR:G R = some (.lst (tr.map fun p => V.ref p.1)):=if_pos rfl
  have Gt:∀ p ∈ tr,G p.1 = some (.tup [.int p.2.1,p.2.2]):=fun p hp => by
    show (if p.1 = R then _ else _) = _
    rw [if_neg (mem_tr p hp).2.1]
    simp only [lookup_nd ndt hp]
  have outT:∀ b,b < N -> b ∉ tr.map (·.1):=fun b hb hm => by
    obtain ⟨p,hp,e⟩:=List.mem_map.mp hm
    have:=(mem_tr p hp).1
    rw [e] at this
    omega
  have GT:G T = some (.tbl (tb3 lp c)):=by
    show (if T = R then _ else _) = _
    rw [if_neg (Nat.ne_of_lt (Nat.lt_of_lt_of_le lT NR)),lookup_out (outT T lT)]
    exact if_pos rfl
  have cT:c ≠ T:=by
    rintro rfl
    obtain ⟨_,o,vs,_,e0,e1,e2,e3⟩:=LA.cd
    cases e0
    have e4:=LA.tb
    rw [e1] at e4
    cases e4
    cases e2
    have:(#[rawInt lp.line,rawInt lp.col,Value.ref c]:Array Value)[1]? = some (rawInt lp.col):=rfl
    rw [show tb3 lp c = #[rawInt lp.line,rawInt lp.col,Value.ref c] from rfl,this] at e3
    cases e3
  have Gc:G c = some (CodO c qual):=by
    show (if c = R then _ else _) = _
    rw [if_neg cR,lookup_out (fun hm => by obtain ⟨p,hp,e⟩:=List.mem_map.mp hm; exact (mem_tr p hp).2.2.1 e)]
    show (if c = T then _ else _) = _
    rw [if_neg cT]
    exact if_pos rfl
  have Gb:∀ b,b < N -> b ≠ T -> b ≠ c -> G b = H1 b:=fun b h1 h2 h3 => by
    show (if b = R then _ else _) = _
    rw [if_neg (Nat.ne_of_lt (Nat.lt_of_lt_of_le h1 NR)),lookup_out (outT b h1)]
    show (if b = T then _ else _) = _
    rw [if_neg h2]
    exact if_neg h3
  have Gk:Kp T H1 G:=fun b o n e => by
    have hb:b < N:=hN ▸ I1.hok.lt e
    by_cases hbc:b = c
    . subst hbc
      rcases cN with g | ⟨_,_,g⟩
      . exact absurd (Nat.lt_of_lt_of_le hb (Nat.le_add_right _ 5)) (Nat.not_lt.mpr g)
      . rw [e] at g; cases g; exact Gc
    . rw [Gb b hb n hbc]; exact e
  have Gn:∀ b o,s1.heap.get? b = some o -> H1 b = none -> G b = none:=fun b o e n => by
    have hb:=kp0 _ _ e
    have h2:b ≠ T:=by
      rintro rfl
      rcases hT with t | ⟨_,t,_⟩ <;> (rw [t] at n; cases n)
    have h3:b ≠ c:=by
      rintro rfl
      rcases cN with g | ⟨_,_,g⟩
      . exact absurd (Nat.lt_of_lt_of_le hb (Nat.le_add_right _ 5)) (Nat.not_lt.mpr g)
      . rw [n] at g; cases g
    rw [Gb b hb h2 h3]; exact n
  have rout:∀ l:List (Addr×(Int×V)),Vals (l.map fun p => V.ref p.1) ((l.map fun p => (p.2.1,Value.ref p.1)).map Prod.snd):=fun l => by
    induction l with
    | nil => exact .nil
    | cons p l ih => exact .cons rfl ih
  have hok4:HOk X.prog X.w G h4:=fun b u e => by
    by_cases hbR:b = R
    . subst hbR
      rw [GR] at e; cases e
      refine ⟨?_,out.toList,c',?_,?_⟩
      . rw [List.length_map]
        have:tr.length = ts.length:=by rw [← List.length_map (f:=(·.1)) (as:=tr)]; exact fst_tr.length_eq
        rw [this,lt3,sizeLine_eq]; omega
      . rw [po,etr]; exact rout tr
      . rw [gRo]
    . by_cases hbt:b ∈ tr.map (·.1)
      . obtain ⟨p,hp,rfl⟩:=List.mem_map.mp hbt
        rw [Gt p hp] at e; cases e
        obtain ⟨_,_,_,x,y,ep,rx,ry⟩:=mem_tr p hp
        exact ⟨⟨by show 2 <= sizeLine; decide,_,ep,rfl⟩,[x,y],.cons rx (.cons ry .nil),_,ep,rfl,_,rfl⟩
      . by_cases hbT:b = T
        . subst hbT
          rw [GT] at e; cases e
          exact kp4 _ _ LA.tb (Ne.symm LT) (nn lT) (nn lT) (Nat.ne_of_lt lT) (nn lT)
        . by_cases hbc:b = c
          . subst hbc
            rw [Gc] at e; cases e
            refine codO_ok ?_
            obtain ⟨c1,o,vs,tt,e0,e1,e2⟩:=LA.cd
            cases e0
            exact ⟨_,o,vs,tt,rfl,kp4 _ _ e1 cne.1 cne.2.1 cne.2.2.1 cne.2.2.2.1 cne.2.2.2.2,e2⟩
          . have e1:H1 b = some u:=by
              have q:G b = if b = T then some (HO.tbl (tb3 lp c)) else if b = c then some (CodO c qual) else H1 b:=by
                show (if b = R then _ else _) = _
                rw [if_neg hbR,lookup_out hbt]
              rw [q,if_neg hbT,if_neg hbc] at e
              exact e
            refine (I1.hok b u e1).stay (fun d v hd r => ?_) (fun d r => Gk d _ ?_ r) fun d xs' r => Gk d _ ?_ r
            . have h1:H1 d ≠ none /\ d ≠ T:=by
                rcases hd with rfl | hd
                . exact ⟨by rw [e1]; simp,hbT⟩
                . refine ⟨by rw [hd]; simp,?_⟩
                  rintro rfl
                  rcases hT with t | ⟨_,t,_⟩ <;> (rw [t] at hd; cases hd)
              exact kpA d v r h1.2 fun z => h1.1 (z ▸ I1.free)
            . rintro rfl
              rcases hT with t | ⟨_,t,_⟩ <;> (rw [t] at r; cases r)
            . rintro rfl
              rcases hT with t | ⟨_,t,_⟩ <;> (rw [t] at r; cases r)
  have nsu:∀ m,s1.heap.Ns X.env.locals m -> h4.Ns X.env.locals m:=fun m hm => by
    have:m = mL:=by
      obtain ⟨o,es,ep,e,d,_,r⟩:=hm
      obtain ⟨o2,es2,ep2,e2,d2,_,r2⟩:=hLn
      rw [e] at e2; cases e2
      rw [d] at d2; cases d2
      funext x
      rw [← r x,r2 x]
    rw [this]; exact gL
  have I4 : Inv X pins σ G { s1 with heap := h4, toks := tk4 } := I1.step (g' := s1.gens) (d' := s1.drawn) (t' := tk4) (ch := []) (fun _ z => nomatch z) (fun b o n1 _ _ e n => kpA b o e (by
        rintro rfl
        rcases hT with t | ⟨_,t,_⟩ <;> (rw [t] at n; cases n)) n1) (fun b o n1 _ _ e n => ⟨o.slots,kpA b o e (by
        rintro rfl
        rcases hT with t | ⟨_,t,_⟩ <;> (rw [t] at n; cases n)) n1⟩) (fun b o _ e n => Gn b o e n) (fun b o _ e => ?_)
      (fun b xs' e => Gk b _ (by
        rintro rfl
        rcases hT with t | ⟨_,t,_⟩ <;> (rw [t] at e; cases e)) e) (fun b o u e => Gk b _ (by
        rintro rfl
        rcases hT with t | ⟨_,t,_⟩ <;> (rw [t] at e; cases e)) e) (fun b ps' e => ?_) nsu hok4 I1.bare
  . exact ⟨.ref R,G,I4,rfl,q R G tr (by
      cases e:H1 R with
      | none => rfl
      | some u => exact absurd (hN ▸ I1.hok.lt e) (Nat.not_lt.mpr NR)) Gk (.inr ⟨c,GT,Gc⟩) GR Gt (by
        have:=ptr.map (·.2)
        rwa [List.map_snd_zip (by rw [List.length_zip,lt3,← hl]; exact Nat.le_of_eq (Nat.min_self _))] at this) (by
        rw [etr,List.pairwise_map] at psd
        exact psd)⟩
  . by_cases hb:b = X.env.locals
    . subst hb
      obtain ⟨o2,_,_,e2,_⟩:=gL
      exact ⟨o2,e2⟩
    . by_cases hbT:b = T
      . subst hbT
        exact ⟨_,kp4 _ _ LA.tb (Ne.symm LT) (nn lT) (nn lT) (Nat.ne_of_lt lT) (nn lT)⟩
      . exact ⟨o,kpA b o e hbT hb⟩
  . by_cases hbT:b = T
    . subst hbT
      rcases LA.cs with ⟨t,_⟩ | ⟨t,_⟩
      . rw [t] at e; cases e
        exact ⟨tb3 lp c,by rw [GT]; simp⟩
      . rw [t] at e; cases e
        exact ⟨#[],by rw [GT]; simp⟩
    . exact ⟨#[],by rw [Gk b _ hbT e]; simp⟩
end L2
namespace L2
open PySem PySem.Spec PyProof.Rows
theorem law_callT {P:Program} {w:World} {K:PySem.W.Frag} {mg mb:Str -> Option Value} {CX:CXT} {k:Nat} {fa a T c0:Addr} {fd:FuncData} {x:Str} {sp:Sp} {s₁:Shared} {vs:List Value} {ns:List Int}
    (KX:K.In s₁.heap) (hns:s₁.heap.Ns mainGlobals mg) (hb:s₁.heap.Ns builtinsNs mb) (hbb:∀ x:Str,x ≠ "__name__" -> mb x = bootBuiltins x) (hlim:s₁.heap.NoLimit) (hg:s₁.gens = #[])
    (hT:s₁.heap.get? T = some (PySem.W.tabObj #[])) (hC:PySem.W.codeHdIn K c0 T = true) (hKT:K.lookup T = none) (hB:BmAt mg s₁.heap)
    (ha:s₁.heap.get? a = some { cls:=.type "list",data:=.seq vs.toArray }) (hi:IntsAre vs ns) (hl:ns.length <= sizeLine) (hr:Room k callerA)
    (F:∀ base:Heap,K.In base -> base.Ns mainGlobals mg -> BmAt mg base -> FnOk P w K mg base CX k fa fd [x] sp) (hbind:∀ (s:Shared) (u:Value),BindsTo s fd ⟨[u],[]⟩ [(x,u)])
    (hsp:∀ H:Hp,H T = some (.tbl #[]) -> SqL K H a (ns.map V.int) -> sp [.ref a] H (fun v _ => v = .bl true) fun _ _ _ => False)
    (hCX:∀ H e s',CX [] H s₁ (fun _ _ _ => False) e s' -> False) :
    codeAny (model P w) callerA (.call (.ref fa) ⟨[.ref a],[]⟩) (fun r s' => r = .ok (.ret (.bool true)) /\ OldK s₁.heap s'.heap /\ s'.os = s₁.os /\ AllBare s'.gens) s₁:=by
  have rv:=vals_ints hi
  have lenV:=hi.length
  have aT:a ≠ T:=by rintro rfl; rw [ha] at hT; cases hT
  have core:∀ H:Hp,H T = some (.tbl #[]) -> SqL K H a (ns.map V.int) -> HOk P w H s₁.heap -> (∀ b,H b ≠ none -> b = a ∨ b = T) -> (H a ≠ none -> K.lookup a = none /\ ∃ o xs,H a = some (.frz o (.lst xs))) ->
      codeAny (model P w) callerA (.call (.ref fa) ⟨[.ref a],[]⟩) (fun r s' => r = .ok (.ret (.bool true)) /\ OldK s₁.heap s'.heap /\ s'.os = s₁.os /\ AllBare s'.gens) s₁:=by
    intro H hO hS hok hA hK
    have base_of:∀ {b:Addr} {o:Obj},s₁.heap.get? b = some o -> H b = none -> (hidT s₁.heap H).get? b = some o:=fun e n => hidT_get e n
    have noA:∀ {b:Addr} {o:Obj},s₁.heap.get? b = some o -> (∀ xs n,o.data ≠ .seq xs n) -> (∀ xs,o.data ≠ .fields xs) -> H b = none:=fun {b o} e d1 d2 => by
      cases q:H b with
      | none => rfl
      | some u =>
        rcases hA b (by rw [q]; simp) with e' | e'
        . subst e'; rw [ha] at e; cases e; exact absurd rfl (d1 _ _)
        . subst e'; rw [hT] at e; cases e; exact absurd rfl (d2 _)
    have nsK:∀ {b:Addr} {m:Str -> Option Value},s₁.heap.Ns b m -> (hidT s₁.heap H).Ns b m:=fun {b m} ⟨o,es,ep,e,d,r⟩ => ⟨o,es,ep,base_of e (noA e (fun _ _ z => by rw [d] at z; cases z) fun _ z => by rw [d] at z; cases z),d,r⟩
    have hKb:K.In (hidT s₁.heap H):=fun b o e => base_of (KX b o e) (by
      cases q:H b with
      | none => rfl
      | some u =>
        rcases hA b (by rw [q]; simp) with e' | e'
        . subst e'; rw [(hK (by rw [q]; simp)).1] at e; cases e
        . subst e'; rw [hKT] at e; cases e)
    have hM:Mod K mg (hidT s₁.heap H):=⟨hKb,nsK hns,⟨mb,nsK hb,hbb⟩,let ⟨mc,h1,h2⟩:=hlim; ⟨mc,nsK h1,h2⟩⟩
    have hBb:BmAt mg (hidT s₁.heap H):=let ⟨bm,o,b1,b2,b3,b4,b5,b6,b7⟩:=hB; ⟨bm,o,b1,b2,b3,base_of b4 (noA b4 (fun _ _ z => by rw [b7] at z; cases z) fun _ z => by rw [b7] at z; cases z),b5,b6,b7⟩
    have e0:Env0 P w K mg (hidT s₁.heap H) callerA [] s₁ H:=⟨rfl,hM,fun b o e => of_hidT e,Nat.le_of_eq (hidT_size _ _),trivial,fun b hb => absurd (show b ∈ ([]:List Addr) from hb) (by simp),hok,.of_eq hg⟩
    refine codeAny_mono ((F _ hKb (nsK hns) hBb).run callerA [] s₁ H ⟨[.ref a],[]⟩ [.ref a] [.ref a] _ _ hr e0 (hbind s₁ (.ref a)) (.cons rfl .nil) (hsp H hO hS)) fun r s' h => ?_
    cases r with
    | error e => exact (hCX H e s' h).elim
    | ok fl =>
      cases fl with
      | next => exact False.elim h
      | brk => exact False.elim h
      | cont => exact False.elim h
      | ret u =>
        obtain ⟨v,H',os,bare,un,hok',r',q⟩:=h
        have q':v = .bl true:=q
        subst q'
        obtain rfl:u = Value.bool true:=r'
        have kb:∀ b o,s₁.heap.get? b = some o -> b ≠ T -> s'.heap.get? b = some o:=fun b o e n => by
          cases q:H b with
          | none => exact un.keep b o e q (by intro z; exact absurd (show b ∈ ([]:List Addr) from z) (by simp)) (by simp)
          | some u =>
            rcases hA b (by rw [q]; simp) with e' | e'
            . subst e'
              obtain ⟨ob,xs,z⟩:=(hK (by rw [q]; simp)).2
              have z2:=un.frzs b ob _ z
              obtain ⟨e1,_⟩:=hok b _ z
              obtain ⟨e2,_⟩:=hok' b _ z2
              rw [e] at e1; cases e1
              exact e2
            . exact absurd e' n
        obtain ⟨more,hT2⟩:=un.tbls T _ hO
        have hT3:s'.heap.get? T = some (PySem.W.tabObj (#[] ++ more)):=hok' T _ hT2
        refine ⟨rfl,⟨fun b o e => ?_,fun b o e => ?_⟩,os,bare⟩
        . by_cases hb:b = T
          . subst hb
            rw [hT] at e; cases e
            exact .inr (.inl ⟨((PySem.W.codeHd_of_K KX hC).tab hT).isCodeTable,rfl,#[],more,rfl,hT3⟩)
          . exact .inl (kb b o e hb)
        . by_cases hb:b = T
          . subst hb; exact ⟨_,hT3⟩
          . exact ⟨o,kb b o e hb⟩
  cases hk:K.lookup a with
  | some o =>
    have e:=KX a o hk
    rw [ha] at e
    cases e
    refine core (fun b => if b = T then some (.tbl #[]) else none) (if_pos rfl) (.inr ⟨_,vs.toArray,_,hk,rfl,rfl,rfl,by rw [List.size_toArray,lenV]; exact hl,by simpa using rv⟩) (fun b u z => ?_) (fun b z => ?_) fun z => absurd (if_neg aT) z
    . by_cases hb:b = T
      . have z':=(if_pos hb).symm.trans z
        cases z'
        subst hb
        exact hT
      . have z':=(if_neg hb).symm.trans z
        cases z'
    . by_cases hb:b = T
      . exact .inr hb
      . exact absurd (if_neg hb) z
  | none =>
    refine core (fun b => if b = T then some (.tbl #[]) else if b = a then some (.frz { cls:=.type "list",data:=.seq vs.toArray } (.lst (ns.map V.int))) else none) (if_pos rfl) (.inl (.inr ⟨{ cls:=.type "list",data:=.seq vs.toArray },(if_neg aT).trans (if_pos rfl)⟩)) (fun b u z => ?_) (fun b z => ?_) fun _ => ⟨hk,_,_,(if_neg aT).trans (if_pos rfl)⟩
    . by_cases hb:b = T
      . have z':=(if_pos hb).symm.trans z
        cases z'
        subst hb
        exact hT
      . have z1:=(if_neg hb).symm.trans z
        by_cases hb:b = a
        . have z':=(if_pos hb).symm.trans z1
          cases z'
          subst hb
          exact ⟨ha,by rw [List.length_map]; exact hl,vs,_,rv,ha⟩
        . have z':=(if_neg hb).symm.trans z1
          cases z'
    . by_cases hb:b = T
      . exact .inr hb
      . by_cases hb2:b = a
        . exact .inl hb2
        . refine absurd ?_ z
          show (if b = T then _ else if b = a then _ else _) = _
          rw [if_neg hb,if_neg hb2]
theorem walk_ofT {l:PySem.W.OpenLaw} {n k:Nat} {q:Program} {loose:List Str} {XP:(Str -> Option Value) -> Heap -> Prop} {YP:World -> Heap -> Prop} {d:DefRec} {K:Params -> PySem.W.Frag} {CX:World -> CXT} {sp:World -> Sp} {x:Str} {T c0:Addr}
    (hn:l.most = some n) (hn2:n <= sizeLine) (hdf:d.params.defaults = []) (hr:Room k callerA)
    (hY:∀ (w:World) (h:Heap),YP w h -> (K w.params).In h /\ h.get? T = some (PySem.W.tabObj #[])) (hC:∀ P,PySem.W.codeHdIn (K P) c0 T = true) (hKT:∀ P,(K P).lookup T = none)
    (F:∀ (w:World) (mg:Str -> Option Value) (fa:Addr) (h:Heap),(K w.params).In h -> h.Ns mainGlobals mg -> mg d.name = some (.ref fa) ->
      ∃ fd:FuncData,(∀ (s:Shared) (u:Value),BindsTo s fd ⟨[u],[]⟩ [(x,u)]) /\
        ∀ base:Heap,(K w.params).In base -> base.Ns mainGlobals mg -> BmAt mg base -> FnOk l.prog w (K w.params) mg base (CX w) k fa fd [x] (sp w))
    (hsp:∀ (w:World) (H:Hp) (a:Addr) (ns:List Int),ns.length <= n -> H T = some (.tbl #[]) -> SqL (K w.params) H a (ns.map V.int) -> sp w [.ref a] H (fun v _ => v = .bl true) fun _ _ _ => False)
    (hCX:∀ (w:World) (H:Hp) (s:Shared) (e:Value) (s':Shared),CX w [] H s (fun _ _ _ => False) e s' -> False) :
    PySem.W.WalkO q loose XP YP l.row.toRowW d [] (fun f vs => PySem.call f vs):=by
  refine Att.attach_call hn hdf fun w s₀ s₁ mg mb fa o pm cd doc a vs ns G Y ho hd hcd hmg hobj hints hlen hg => ?_
  obtain ⟨KX,hT⟩:=hY w _ Y
  obtain ⟨fd,hb,hF⟩:=F w mg fa _ KX G.T.g hmg
  have hB:BmAt mg s₁.heap:=by
    obtain ⟨bm,ob,b1,b2,b3,b4,b5,b6⟩:=G.T.bmain
    refine ⟨bm,ob,b1,b2,fun q => ?_,b3,b4,b5,b6⟩
    obtain ⟨o,es,ep,e,hd,_⟩:=G.T.g
    rw [q,e] at b3; cases b3; rw [hd] at b6; cases b6
  exact law_callT KX G.T.g G.T.b G.T.builtins G.T.nolimit hg hT (hC _) (hKT _) hB hobj hints (Nat.le_trans hlen hn2) hr hF hb (fun H hO hS => hsp w H a ns hlen hO hS) fun H e s' => hCX w H s₁ e s'
structure DfC (K:PySem.W.Frag) (mg:Str -> Option Value) (x:Str) (st:Stmt) (ps:List Str) (c T:Addr):Prop where
  ex:∃ (f:Addr) (fd:FuncData),(∃ (oc:Value) (od:Option Addr) (dV kV doc pm:Value) (an:Option Addr) (ct:Value) (osl:Array (Option Value)),
    fd = PySem.W.fnOf x x (defArgs st) (defBody st) (defScope st) dV kV doc pm an (.ref c) ct /\ K.lookup f = some ⟨oc,od,.func fd,osl⟩ /\ PySem.W.codeIn K (.ref c) x = true) /\ PySem.W.keepIn K (.ref f) = true /\ mg x = some (.ref f) /\ Binds K fd ps []
  hd:PySem.W.codeHdIn K c T = true
theorem Okf.ofC {P:Program} {w:World} {K:PySem.W.Frag} {mg:Str -> Option Value} {base:Heap} {k:Nat} {x:Str} {st:Stmt} {N ps:List Str} {sp:Sp} {c T:Addr} (d:DfC K mg x st ps c T) (S:FnScope N ps (defScope st)) (len:∀ vs H Q E,sp vs H Q E -> vs.length = ps.length)
    (hbody:∀ (f:Addr) (A:Around) (outer:List Env) (s:Shared) (H:Hp) (vs:List V) (Q:VK) (E:XK),Room k (A.deeper (envOfC x (defScope st) s.heap.objs.size f (.ref c))) -> sp vs H Q E ->
      ∃ t,PSs (cxOf CX0 P w K mg base N x (defScope st) f (.ref c) A outer s H E).nox (defBody st) t /\ t { nx:=fun _ H' => Q .non H',rt:=Q } (start N vs) H):Okf P w K mg base (k + 1) x ps sp:=by
  obtain ⟨f,fd,⟨oc,od,dV,kV,doc,pm,an,ct,osl,rfl,lk,hcd⟩,kp,a,b⟩:=d.ex
  refine ⟨f,_,a,kp,b,fn_of lk hcd S len fun A outer s H vs Q E hr hsp => ?_⟩
  obtain ⟨t,h,q⟩:=hbody f A outer s H vs Q E hr hsp
  exact ⟨t,h.nox,q⟩
theorem dfc_mk {K:PySem.W.Frag} {mg:Str -> Option Value} {h:Heap} {x:Str} {st:Stmt} {ps:List Str} {f c T:Addr} {oc:Value} {od an:Option Addr} {osl:Array (Option Value)} {dV kV doc pm ct:Value} (X:K.In h) (G:h.Ns mainGlobals mg)
    (a:PySem.W.nsIn K mainGlobals x = some (some (.ref f))) (l:K.lookup f = some ⟨oc,od,.func (PySem.W.fnOf x x (defArgs st) (defBody st) (defScope st) dV kV doc pm an (.ref c) ct),osl⟩)
    (cc:PySem.W.codeIn K (.ref c) x = true) (k:PySem.W.keepIn K (.ref f) = true) (t:PySem.W.codeHdIn K c T = true)
    (b:∀ us:List Value,us.length = ps.length -> bindArgs (PySem.W.fnOf x x (defArgs st) (defBody st) (defScope st) dV kV doc pm an (.ref c) ct) ⟨us,[]⟩ = pure (ps.zip us)):DfC K mg x st ps c T :=
  ⟨⟨f,_,⟨oc,od,dV,kV,doc,pm,an,ct,osl,rfl,l,cc⟩,k,PySem.W.mg_of X G a,.all b⟩,t⟩
end L2
namespace Lw
open PySem L2
set_option compiler.extract_closed false
set_option hygiene false
local macro_rules | `(tactic| walk_at "st") => `(tactic| first
  | with_reducible assumption
  | ((with_reducible refine St3.new ?_ ?hn); (case hn => with_reducible assumption); walk_at "st"))
local macro_rules | `(tactic| walk_at "kp") => `(tactic| first
  | with_reducible assumption
  | with_reducible exact Kp.refl _ _
  | ((with_reducible refine Kp.trans ?_ (Kp.new ?hn)); (case hn => with_reducible assumption); walk_at "kp"))
local macro_rules | `(tactic| walk_at "sm") => `(tactic| first
  | with_reducible assumption
  | with_reducible exact Same.refl _
  | ((with_reducible refine Same.trans ?_ (Same.new ?hn)); (case hn => with_reducible assumption); walk_at "sm"))
local macro_rules | `(tactic| walk_at "hp") => `(tactic| first
  | with_reducible assumption
  | with_reducible exact upd_same
  | ((with_reducible refine upd_old ?hn ?_); (case hn => with_reducible assumption); walk_at "hp")
  | ((with_reducible refine upd_not ?hn ?_); (case hn => first | with_reducible assumption | (refine Ne.symm ?_; with_reducible assumption)); walk_at "hp")
  | ((with_reducible refine Same.app ?hn ?_); (case hn => with_reducible assumption); walk_at "hp")
  | ((with_reducible refine Kp.app ?hk ?hn ?_); (case hk => with_reducible assumption); (case hn => first | with_reducible assumption | (refine Ne.symm ?_; with_reducible assumption)); walk_at "hp"))
local macro_rules | `(tactic| walk_at "tk") => `(tactic| first
  | with_reducible exact TK.refl _
  | with_reducible assumption
  | ((with_reducible refine TK.trans ?_ (TK.new ?hn)); (case hn => with_reducible assumption); walk_at "tk")
  | ((with_reducible refine TK.trans ?_ (TK.lst ?hn)); (case hn => walk_at "hp"); walk_at "tk")
  | ((with_reducible refine TK.trans ?_ (TK.dic ?hn)); (case hn => walk_at "hp"); walk_at "tk")
  | ((with_reducible refine TK.trans ?_ (TK.frz ?hn)); (case hn => walk_at "hp"); walk_at "tk")
  | ((with_reducible refine TK.trans ?_ TK.melt); walk_at "tk")
  | ((with_reducible refine TK.trans ?_ (Same.tk ?hn)); (case hn => with_reducible assumption); walk_at "tk")
  | ((with_reducible refine TK.trans ?_ (St3.tk ?hs ?hn)); (case hn => with_reducible assumption); (case hs => with_reducible assumption); walk_at "tk"))
local macro_rules | `(tactic| walk_at "fq") => `(tactic| first
  | with_reducible assumption
  | ((with_reducible refine FrQ.tk ?fa ?ft); (case fa => with_reducible assumption); (case ft => walk_at "tk")))
local macro_rules | `(tactic| walk_at "go1") => `(tactic| first
  | with_reducible refine r_seq ?_
  | ((with_reducible refine r_nxD ?_); (with_reducible refine r_nx ?_))
  | ((with_reducible refine r_rtD ?_); (with_reducible refine r_rt ?_))
  | ((with_reducible refine r_bkD ?_); (with_reducible refine r_bk ?_))
  | ((with_reducible refine r_ctD ?_); (with_reducible refine r_ct ?_))
  | with_reducible refine r_asg ?_
  | with_reducible refine r_gname ?_
  | ((with_reducible refine' r_var ?rv ?_); case rv => exact rfl)
  | with_reducible refine r_c ?_
  | with_reducible refine r_op ?_
  | with_reducible refine r_un ?_
  | with_reducible refine r_I0 ?_
  | with_reducible refine r_U ?_
  | with_reducible refine a_int ?_
  | with_reducible refine r_sl ?_
  | with_reducible refine r_part ?_
  | with_reducible refine r_partK ?_
  | with_reducible refine r_nopart ?_
  | ((with_reducible refine r_mod ?mc ?_); case mc => first | decide | omega)
  | ((with_reducible refine r_modN ?mc ?_); case mc => first | decide | omega)
  | ((with_reducible refine r_mul ?mc ?_); case mc => first | exact CMulB.r (by decide) (by decide) | exact CMulB.l (by decide) (by decide) | exact CMulB.l (by omega) (by omega) | exact CMulB.r (by omega) (by omega))
  | ((with_reducible refine r_fdiv ?mc ?_); case mc => first | exact CDivB.of (by decide) (by decide) | exact CDivB.of (by omega) (by omega))
  | with_reducible refine r_pow18 ?_
  | with_reducible refine r_pow9 ?_
  | with_reducible refine r_test ?_
  | with_reducible refine r_tB ?_
  | with_reducible refine r_bK ?_
  | with_reducible refine r_ifS ?_
  | with_reducible refine r_if ?_
  | with_reducible refine r_and ?_
  | with_reducible refine r_or ?_
  | with_reducible refine r_not ?_
  | with_reducible refine r_andV ?_
  | with_reducible refine r_orV ?_
  | with_reducible refine r_notV ?_
  | with_reducible refine r_andK ?_
  | with_reducible refine r_orK ?_
  | with_reducible refine r_notK ?_
  | with_reducible refine r_ret ?_
  | with_reducible refine r_retN ?_
  | with_reducible refine r_next ?_
  | with_reducible refine r_drop ?_
  | with_reducible refine r_nil ?_
  | with_reducible refine r_cons ?_
  | with_reducible refine r_tup ?_
  | with_reducible refine r_lst ?_
  | with_reducible refine r_call ?_
  | with_reducible refine r_callD ?_
  | with_reducible refine r_callK ?_
  | with_reducible refine r_lrng ?_
  | with_reducible refine r_iTup ?_
  | with_reducible refine r_rngD ?_
  | with_reducible refine r_CB ?_
  | with_reducible refine r_dget ?_
  | with_reducible refine r_din ?_
  | with_reducible refine r_dnin ?_
  | with_reducible refine r_dput ?_
  | with_reducible refine r_dget1 ?_
  | with_reducible refine r_dget2 ?_
  | with_reducible refine r_dpop1 ?_
  | with_reducible refine r_bm ?_
  | with_reducible refine r_bm0 ?_
  | with_reducible refine r_bmS ?_
  | with_reducible refine r_gcons ?_
  | with_reducible refine r_gnil ?_
  | with_reducible refine r_iEnum ?_
  | with_reducible refine r_tru ?_
  | with_reducible refine r_orT ?_
  | with_reducible refine r_cont ?_
  | with_reducible refine r_break ?_
  | with_reducible refine r_isNr ?_
  | with_reducible refine r_isNn ?_
  | with_reducible refine r_isNs ?_
  | with_reducible refine r_isNi ?_
  | with_reducible refine r_isNk ?_
  | with_reducible refine r_noNr ?_
  | with_reducible refine r_noNn ?_
  | with_reducible refine r_noNs ?_
  | ((with_reducible refine' r_bmL ?ih ?_); (case ih => walk_at "hp"))
  | ((with_reducible refine' r_bmD ?ih ?_); (case ih => walk_at "hp"))
  | ((with_reducible refine' r_bm0D ?ih ?_); (case ih => walk_at "hp"))
  | ((with_reducible refine' r_gtup2 ?ih ?_); (case ih => walk_at "hp"))
  | ((with_reducible refine' r_gtup3 ?ih ?_); (case ih => walk_at "hp"))
  | ((with_reducible refine' r_gtup4 ?ih ?_); (case ih => walk_at "hp"))
  | with_reducible refine r_par ?_
  | with_reducible refine r_parK ?_
  | with_reducible refine e_int ?_
  | with_reducible refine n_int ?_
  | with_reducible refine e_bl ?_
  | with_reducible refine n_bl ?_
  | with_reducible refine e_str ?_
  | with_reducible refine n_str ?_
  | with_reducible refine r_isB ?_
  | with_reducible refine r_isNB ?_
  | with_reducible refine r_gsub ?_
  | with_reducible refine r_abs ?_
  | with_reducible refine r_max ?_
  | with_reducible refine r_min ?_
  | with_reducible refine r_intB ?_
  | with_reducible refine r_for ?_
  | with_reducible refine r_comp ?_
  | with_reducible refine r_rng1 ?_
  | with_reducible refine r_rng2 ?_
  | with_reducible refine r_iList ?_
  | ((with_reducible refine' r_lent ?ih ?_); (case ih => walk_at "hp"))
  | ((with_reducible refine' r_lenl ?ih ?_); (case ih => walk_at "hp"))
  | ((with_reducible refine' r_ixt ?ih ?ie ?_); (case ih => walk_at "hp"); (case ie => exact rfl))
  | ((with_reducible refine' r_ixl ?ih ?ie ?_); (case ih => walk_at "hp"); (case ie => exact rfl))
  | with_reducible refine r_dmN ?_
  | with_reducible refine r_dmR ?_
  | with_reducible refine i_sN ?_
  | with_reducible refine i_sS ?_
  | with_reducible refine i_T ?_
  | with_reducible refine i_F ?_
  | with_reducible refine i_flip ?_
  | ((with_reducible refine i_dT ?dc ?_); case dc => omega)
  | ((with_reducible refine i_dF ?dc ?_); case dc => omega))
local macro_rules | `(tactic| walk_at "go") => `(tactic| repeat (walk_at "go1"))
local macro_rules | `(tactic| walk_at "gos") => `(tactic| repeat ((fail_if_success (with_reducible refine r_seq ?_)); walk_at "go1"))
set_option hygiene true
local macro_rules | `(tactic| walk_at "go1") => `(tactic| first
  | with_reducible refine r_try ?_
  | with_reducible refine r_xdrop ?_
  | with_reducible refine r_xset ?_
  | with_reducible refine r_xret ?_
  | with_reducible refine r_callX ?_
  | with_reducible refine r_callXD ?_
  | with_reducible refine r_callH ?_
  | with_reducible refine r_raise ?_
  | with_reducible refine r_rng1H ?_)
theorem el_n {P:List Value -> Prop} (h:P []):∀ us:List Value,us.length = 0 -> P us:=fun us e => (List.length_eq_zero_iff.mp e).symm ▸ h
theorem el_s {n:Nat} {P:List Value -> Prop} (h:∀ a us,us.length = n -> P (a :: us)):∀ us:List Value,us.length = n + 1 -> P us:=fun us => List.casesOn (motive:=fun us => us.length = n + 1 -> P us) us (fun e => absurd e (Nat.succ_ne_zero n).symm) fun a us e => h a us (Nat.succ.inj e)
theorem el_1 {P:List Value -> Prop} (h:∀ a0,P [a0]):∀ us:List Value,us.length = 1 -> P us:=el_s fun a0 => el_n (h a0)
theorem el_2 {P:List Value -> Prop} (h:∀ a0 a1,P [a0,a1]):∀ us:List Value,us.length = 2 -> P us:=el_s fun a0 => el_s fun a1 => el_n (h a0 a1)
theorem el_3 {P:List Value -> Prop} (h:∀ a0 a1 a2,P [a0,a1,a2]):∀ us:List Value,us.length = 3 -> P us:=el_s fun a0 => el_s fun a1 => el_s fun a2 => el_n (h a0 a1 a2)
theorem el_4 {P:List Value -> Prop} (h:∀ a0 a1 a2 a3,P [a0,a1,a2,a3]):∀ us:List Value,us.length = 4 -> P us:=el_s fun a0 => el_s fun a1 => el_s fun a2 => el_s fun a3 => el_n (h a0 a1 a2 a3)
noncomputable def top (i:Nat):Stmt:=PySem.Challenge.pw_tilefall_k61_times_made_of_a_box.main.body.getD i (.Pass ⟨0,0,0,0⟩)
noncomputable abbrev tT:Addr:=77
noncomputable abbrev LT (H:Hp):Prop:=LTab 77 ⟨23,59,23,79⟩ (("sorted_by" ++ ".<locals>.":Str) ++ "<lambda>") H
theorem LT.ex {H:Hp} (h:LT H):∃ ps,H tT = some (.tbl ps):=by
  rcases h with h | ⟨_,h,_⟩
  . exact ⟨_,h⟩
  . exact ⟨_,h⟩
theorem kT {H H':Hp} {a:Addr} {o:HO} (k:Kp tT H H') (t:LT H) (h:H a = some o) (ho:∀ ps,o ≠ .tbl ps):H' a = some o :=
  let ⟨ps,e⟩:=t.ex; k _ _ (ne_of h e (ho ps)) h
theorem kTf {H H':Hp} {a:Addr} (k:Kp tT H H') (t':LT H') (h:H' a = none):H a = none:=by
  cases e:H a with
  | none => rfl
  | some o =>
    obtain ⟨ps,e2⟩:=t'.ex
    rw [k _ _ (Ne.symm (ne_of_none e2 h)) e] at h; cases h
theorem LT.lst {H:Hp} {p:Addr} {xs ys:List V} (t:LT H) (h:H p = some (.lst xs)):LT (L2.upd H p (.lst ys)):=by
  rcases t with t | ⟨c,t,u⟩
  . exact .inl (by rw [upd_ne (ne_of t h (by intro z; cases z))]; exact t)
  . exact .inr ⟨c,by rw [upd_ne (ne_of t h (by intro z; cases z))]; exact t,by rw [upd_ne (ne_of u h (by intro z; cases z))]; exact u⟩
theorem FxQ.tk {H H':Hp} {v:V} {f:Int×Int} (h:FxQ H v f) (k:Kp tT H H') (t:LT H):FxQ H' v f :=
  let ⟨q,e,g⟩:=h; ⟨q,e,kT k t g (fun _ z => by cases z)⟩
theorem LQ.tk {H H':Hp} {l:Addr} {fs:List (Int×Int)} (h:LQ FxQ H l fs) (k:Kp tT H H') (t:LT H):LQ FxQ H' l fs :=
  let ⟨vs,a,b⟩:=h; ⟨vs,kT k t a (fun _ z => by cases z),Pd.imp b fun v f x => FxQ.tk x k t⟩
theorem flat_ints:∀ xs:List Int,(xs.map V.int).all flatV = true
  | [] => rfl
  | x :: xs => by rw [List.map_cons,List.all_cons,flat_ints xs]; rfl
theorem LQ.sm {H H':Hp} {l:Addr} {fs:List (Int×Int)} (h:LQ FxQ H l fs) (k:Same H H'):LQ FxQ H' l fs :=
  let ⟨vs,a,b⟩:=h; ⟨vs,k _ _ a,Pd.imp b fun v f x => FxQ.same x k⟩
structure XmS (mg:Str -> Option Value) (xt x1 x3 x4:Addr):Prop where
  t:mg "TileError" = some (.ref xt)
  m_NoNet:mg "NoNet" = some (.ref x1)
  m_NoSum:mg "NoSum" = some (.ref x3)
  m_TooMany:mg "TooMany" = some (.ref x4)
  zV:mg "ValueError" = none
structure XrS (K:PySem.W.Frag) (xt x1 x3 x4 C:Addr) (i:Nat):Prop where
  x:XCls K C
  e:XrE K C
  v:PySem.W.kitOne K (.ref C) (.type "ValueError") = some true
  t:PySem.W.exmOne K (.ref C) (.ref xt) = some true
  k1:PySem.W.kitOne K (.ref C) (.ref x1) = some (Nat.beq 1 i)
  k3:PySem.W.kitOne K (.ref C) (.ref x3) = some (Nat.beq 3 i)
  k4:PySem.W.kitOne K (.ref C) (.ref x4) = some (Nat.beq 4 i)
noncomputable abbrev s_common_divisor:Stmt:=top 6
theorem sc_common_divisor:FnScope ["one","other","rest"] ["one","other"] (defScope s_common_divisor):=⟨rfl,rfl,rfl,by decide +kernel,rfl,by decide +kernel,by decide +kernel⟩
noncomputable abbrev s_whole_tops:Stmt:=top 7
theorem sc_whole_tops:FnScope ["fractions","bottom","each"] ["fractions"] (defScope s_whole_tops):=⟨rfl,rfl,rfl,by decide +kernel,rfl,by decide +kernel,by decide +kernel⟩
noncomputable abbrev s_sorted_by:Stmt:=top 8
theorem sc_sorted_by:FnScope ["fractions","things","pairs"] ["fractions","things"] (defScope s_sorted_by):=⟨rfl,rfl,rfl,by decide +kernel,rfl,by decide +kernel,by decide +kernel⟩
noncomputable abbrev s_units_of:Stmt:=top 10
theorem sc_units_of:FnScope ["times","tops","unit","top"] ["times"] (defScope s_units_of):=⟨rfl,rfl,rfl,by decide +kernel,rfl,by decide +kernel,by decide +kernel⟩
noncomputable abbrev s_fewest_parts:Stmt:=top 11
theorem sc_fewest_parts:FnScope ["parts","last","fewest","whole","counts"] ["parts","last"] (defScope s_fewest_parts):=⟨rfl,rfl,rfl,by decide +kernel,rfl,by decide +kernel,by decide +kernel⟩
noncomputable abbrev s_first_part:Stmt:=top 12
theorem sc_first_part:FnScope ["parts","fewest","left","place","part"] ["parts","fewest","left"] (defScope s_first_part):=⟨rfl,rfl,rfl,by decide +kernel,rfl,by decide +kernel,by decide +kernel⟩
noncomputable abbrev s_made_of:Stmt:=top 13
theorem sc_made_of:FnScope ["box","time","falling","parts","left","fewest","made","place"] ["box","time"] (defScope s_made_of):=⟨rfl,rfl,rfl,by decide +kernel,rfl,by decide +kernel,by decide +kernel⟩
noncomputable abbrev s_cell_at:Stmt:=top 15
theorem sc_cell_at:FnScope ["_law_script","_law_k"] ["_law_script","_law_k"] (defScope s_cell_at):=⟨rfl,rfl,rfl,by decide +kernel,rfl,by decide +kernel,by decide +kernel⟩
noncomputable abbrev s_mixed:Stmt:=top 16
theorem sc_mixed:FnScope ["_law_cell","_law_k"] ["_law_cell","_law_k"] (defScope s_mixed):=⟨rfl,rfl,rfl,by decide +kernel,rfl,by decide +kernel,by decide +kernel⟩
noncomputable abbrev s_great:Stmt:=top 17
theorem sc_great:FnScope ["_law_cell"] ["_law_cell"] (defScope s_great):=⟨rfl,rfl,rfl,by decide +kernel,rfl,by decide +kernel,by decide +kernel⟩
noncomputable abbrev s_numbers:Stmt:=top 18
theorem sc_numbers:FnScope ["_law_script","_law_first","_law_many","_law_size","_law_found","_law_cell","_law_k"] ["_law_script","_law_first","_law_many","_law_size"] (defScope s_numbers):=⟨rfl,rfl,rfl,by decide +kernel,rfl,by decide +kernel,by decide +kernel⟩
noncomputable abbrev s_lowest:Stmt:=top 19
theorem sc_lowest:FnScope ["_law_top","_law_bottom","_law_one","_law_other"] ["_law_top","_law_bottom"] (defScope s_lowest):=⟨rfl,rfl,rfl,by decide +kernel,rfl,by decide +kernel,by decide +kernel⟩
noncomputable abbrev s_unit:Stmt:=top 20
theorem sc_unit:FnScope ["_law_number"] ["_law_number"] (defScope s_unit):=⟨rfl,rfl,rfl,by decide +kernel,rfl,by decide +kernel,by decide +kernel⟩
noncomputable abbrev s_sizes:Stmt:=top 21
theorem sc_sizes:FnScope ["_law_numbers_here","_law_sizes_here","_law_number","_law_size"] ["_law_numbers_here"] (defScope s_sizes):=⟨rfl,rfl,rfl,by decide +kernel,rfl,by decide +kernel,by decide +kernel⟩
noncomputable abbrev s_times_of:Stmt:=top 22
theorem sc_times_of:FnScope ["_law_unit_here","_law_sizes_here"] ["_law_unit_here","_law_sizes_here"] (defScope s_times_of):=⟨rfl,rfl,rfl,by decide +kernel,rfl,by decide +kernel,by decide +kernel⟩
noncomputable abbrev s_best:Stmt:=top 23
theorem sc_best:FnScope ["_law_sizes_here","_law_whole","_law_best_here","_law_number","_law_some","_law_least","_law_many"] ["_law_sizes_here","_law_whole"] (defScope s_best):=⟨rfl,rfl,rfl,by decide +kernel,rfl,by decide +kernel,by decide +kernel⟩
noncomputable abbrev s_list:Stmt:=top 24
theorem sc_list:FnScope ["_law_sizes_here","_law_best_here","_law_whole","_law_found","_law_some"] ["_law_sizes_here","_law_best_here","_law_whole"] (defScope s_list):=⟨rfl,rfl,rfl,by decide +kernel,rfl,by decide +kernel,by decide +kernel⟩
noncomputable abbrev s_told:Stmt:=top 25
theorem sc_told:FnScope ["_law_box","_law_time","_law_found","_law_kinds","e"] ["_law_box","_law_time"] (defScope s_told):=⟨rfl,rfl,rfl,by decide +kernel,rfl,by decide +kernel,by decide +kernel⟩
noncomputable abbrev s_law:Stmt:=top 26
theorem sc_law:FnScope ["_law_script","_law_number","_law_sizes_here","_law_unit_here","_law_box","_law_best_here","_law_cell","_law_k","_law_whole","_law_time","_law_due","_law_handed","_law_found"] ["_law_script"] (defScope s_law):=⟨rfl,rfl,rfl,by decide +kernel,rfl,by decide +kernel,by decide +kernel⟩
noncomputable def spGcd:Sp:=fun vs H Q _ => ∃ (a b:Int),vs = [.int a,.int b] /\ Q (.int (Int.gcd a b:Int)) H
noncomputable def spTops:Sp:=fun vs H Q _ => ∃ (l:Addr) (fs:List (Int×Int)) (B:Int),vs = [.ref l] /\ LQ FxQ H l fs /\ fs.length <= 500 /\ 0 < B /\ Sm 100 B /\ (∀ f ∈ fs,0 < f.2 /\ f.2 ∣ B /\ Sm 100 f.1) /\
  ∀ (p:Addr) (H':Hp) (D:Int),H p = none -> Same H H' -> 0 < D -> Sm 100 D -> (∀ f ∈ fs,f.2 ∣ D) -> H' p = some (.lst ((tpV D fs).map V.int)) -> Q (.ref p) H'
noncomputable def spSortedBy (K:PySem.W.Frag):Sp:=fun vs H Q _ => ∃ (l:Addr) (ms:List Nat) (u:Int×Int),vs = [.ref l,.ref l] /\ UnO u /\ LQ FxQ H l (ms.map (tmF u)) /\ (∀ m ∈ ms,m <= 100000) /\ ms.length < 64 /\ LT H /\
  ∀ (p:Addr) (H':Hp) (ns:List Nat),H p = none -> Kp tT H H' -> LT H' -> ns.Perm ms -> ns.Pairwise (· <= ·) -> LQ FxQ H' p (ns.map (tmF u)) -> Q (.ref p) H'
noncomputable def spUnits:Sp:=fun vs H Q _ => ∃ (l:Addr) (ms:List Nat) (u:Int×Int),vs = [.ref l] /\ UnO u /\ LQ FxQ H l (ms.map (tmF u)) /\ (∀ m ∈ ms,m <= 100000) /\ ms.length <= 200 /\ (∃ m ∈ ms,0 < m) /\
  ∀ (p:Addr) (H':Hp),H p = none -> Same H H' -> H' p = some (.lst (((ms.map (· / gcdL ms)).map Int.ofNat).map V.int)) -> Q (.ref p) H'
noncomputable def cntW (F:List (Option Nat)) (w:Nat) (S:List Nat):List Nat:=S.filterMap fun s => if s <= w then (F[w - s]?).join else none
theorem cntW_mem {F:List (Option Nat)} {w:Nat} {S:List Nat} {k:Nat}:k ∈ cntW F w S ↔ ∃ s ∈ S,s <= w /\ F[w - s]? = some (some k):=by
  unfold cntW
  rw [List.mem_filterMap]
  constructor
  . rintro ⟨s,hs,h⟩
    split at h
    . rename_i hl
      refine ⟨s,hs,hl,?_⟩
      cases e:F[w - s]? with
      | none => rw [e] at h; cases h
      | some o => rw [e] at h; rw [show o = some k from h]
    . cases h
  . rintro ⟨s,hs,hl,h⟩
    exact ⟨s,hs,by rw [if_pos hl,h]; rfl⟩
theorem tbl_next {S:List Nat} {F:List (Option Nat)} {i:Nat} {o:Option Nat} (hS:∀ s ∈ S,0 < s) (hF:F.length = i + 1) (hB:∀ w o,F[w]? = some o -> isB S w o)
    (h0:o = none -> cntW F (i + 1) S = []) (h1:∀ k,o = some k -> ∃ j,k = j + 1 /\ j ∈ cntW F (i + 1) S /\ ∀ x ∈ cntW F (i + 1) S,j <= x):isB S (i + 1) o:=by
  refine isB_step (t:=fun m => (F[m]?).join) (by omega) hS (fun m hm => ?_) (fun e s hs hl => ?_) fun k e => ?_
  . rw [List.getElem?_eq_getElem (show m < F.length by omega)]
    exact hB m _ (List.getElem?_eq_getElem (by omega))
  . have hm:i + 1 - s < F.length:=by have:=hS s hs; omega
    cases e2:F[i + 1 - s]? with
    | none => rfl
    | some p =>
      cases p with
      | none => rfl
      | some k =>
        have:=cntW_mem.mpr ⟨s,hs,hl,e2⟩
        rw [h0 e] at this
        cases this
  . obtain ⟨j,e1,hj,hm⟩:=h1 k e
    obtain ⟨s,hs,hl,e2⟩:=cntW_mem.mp hj
    refine ⟨j,e1,⟨s,hs,hl,by show (F[i + 1 - s]?).join = _; rw [e2]; rfl⟩,fun s' hs' hl' x hx => hm x (cntW_mem.mpr ⟨s',hs',hl',?_⟩)⟩
    cases e3:F[i + 1 - s']? with
    | none => have:(F[i + 1 - s']?).join = some x:=hx; rw [e3] at this; cases this
    | some p => have:(F[i + 1 - s']?).join = some x:=hx; rw [e3] at this; rw [show p = some x from this]
noncomputable def Tbl (S:List Nat) (n:Nat) (F:List (Option Nat)):Prop:=F.length = n + 1 /\ ∀ w o,F[w]? = some o -> isB S w o
noncomputable def spFewest:Sp:=fun vs H Q _ => ∃ (p:Addr) (S:List Nat) (n:Nat),vs = [.ref p,.int n] /\ H p = some (.lst ((S.map Int.ofNat).map V.int)) /\ (∀ s ∈ S,0 < s) /\ S.length <= 100 /\ n <= 900 /\
  ∀ (l:Addr) (H':Hp) (F:List (Option Nat)),H l = none -> Same H H' -> H' l = some (.lst (F.map oV)) -> Tbl S n F -> Q (.ref l) H'
noncomputable def spFirst:Sp:=fun vs H Q _ => ∃ (p:Addr) (S:List Nat) (f:Addr) (F:List (Option Nat)) (n k last:Nat),vs = [.ref p,.ref f,.int n] /\ H p = some (.lst ((S.map Int.ofNat).map V.int)) /\ (∀ s ∈ S,0 < s) /\ S.length <= 100 /\
  H f = some (.lst (F.map oV)) /\ Tbl S last F /\ 0 < n /\ n <= last /\ F[n]? = some (some (k + 1)) /\
  ∀ (i s:Nat) (H':Hp),Same H H' -> S[i]? = some s -> s <= n -> isB S (n - s) (some k) -> (∀ j s',j < i -> S[j]? = some s' -> s' <= n -> ¬ isB S (n - s') (some k)) -> Q (.int i) H'
noncomputable def spMade (K:PySem.W.Frag) (x:Addr):Sp:=fun vs H Q E => ∃ (l:Addr) (ms:List Nat) (u:Int×Int) (n:Nat) (tq:Addr),vs = [.ref l,.ref tq] /\ UnO u /\ LQ FxQ H l (ms.map (tmF u)) /\ FxQ H (.ref tq) (tmF u n) /\ (∀ m ∈ ms,0 < m) /\ (∀ m ∈ ms,m <= 100000) /\ n <= 900 /\ ms ≠ [] /\ ms.length < 50 /\ LT H /\
  ((∀ k,¬ Sums ms n k) -> ∀ H',Kp tT H H' -> LT H' -> E (.ref x) none H') /\
  ∀ (L:List Nat) (l':Addr) (H':Hp),Grd ms n L -> H l' = none -> Kp tT H H' -> LT H' -> LQ FxQ H' l' (L.map (tmF u)) -> Q (.ref l') H'
noncomputable def spCell (K:PySem.W.Frag):Sp:=fun vs H Q _ => ∃ (a:Addr) (ns:List Int) (k:Int),vs = [.ref a,.int k] /\ SqL K H a (ns.map V.int) /\ 0 <= k /\ ∀ r,Q (.int r) H
noncomputable def spMixed:Sp:=fun vs H Q _ => ∃ (c k:Int),vs = [.int c,.int k] /\ 0 <= k /\ k <= 1000 /\ ∀ r,0 <= r -> r < 2147483647 -> Q (.int r) H
noncomputable def spGreat:Sp:=fun vs H Q _ => ∃ (c:Int),vs = [.int c] /\ ∀ r,Q (.int r) H
noncomputable def spNumbers (K:PySem.W.Frag):Sp:=fun vs H Q _ => ∃ (a:Addr) (ns:List Int) (f:Int) (m:Int) (z:Int),vs = [.ref a,.int f,.int m,.int z] /\ SqL K H a (ns.map V.int) /\ 0 <= f /\ f <= 1000 /\ 0 <= m /\ m <= 500 /\ 0 < z /\ z < 2 ^ 64 /\ ∀ p H' (xs:List Int),H p = none -> Same H H' -> H' p = some (.lst (xs.map V.int)) -> xs.length = m.toNat -> (∀ x ∈ xs,0 <= x /\ x < z) -> Q (.ref p) H'
noncomputable def spLowest:Sp:=fun vs H Q _ => ∃ (t b:Int),vs = [.int t,.int b] /\ 0 < b /\ Sm 8000 t /\ Sm 8000 b /\
  ∀ p,H p = none -> Q (.ref p) (upd H p (.tup [.int (lowT t b),.int (lowB t b)]))
noncomputable def spUnit:Sp:=fun vs H Q _ => ∃ (n:Int),vs = [.int n] /\ ∀ (p:Addr) (u:Int×Int) (H':Hp),UnO u -> H p = none -> Same H H' -> H' p = some (.tup [.int u.1,.int u.2]) -> Q (.ref p) H'
noncomputable def spSizes (K:PySem.W.Frag):Sp:=fun vs H Q _ => ∃ (p:Addr) (xs:List Int),vs = [.ref p] /\ H p = some (.lst (xs.map V.int)) /\ (∀ x ∈ xs,0 <= x /\ x < 80) /\ xs.length <= 6 /\ xs ≠ [] /\
  ∀ (l:Addr) (S:List Nat) (H':Hp),H l = none -> Same H H' -> H' l = some (.lst ((S.map Int.ofNat).map V.int)) -> (∀ s ∈ S,0 < s /\ s <= 40) -> S.length <= 6 -> S ≠ [] -> Q (.ref l) H'
noncomputable def spTimes:Sp:=fun vs H Q _ => ∃ (a:Addr) (u:Int×Int) (p:Addr) (S:List Nat),vs = [.ref a,.ref p] /\ UnO u /\ H a = some (.tup [.int u.1,.int u.2]) /\ H p = some (.lst ((S.map Int.ofNat).map V.int)) /\ (∀ s ∈ S,s <= 100000) /\ S.length <= 900 /\
  ∀ (l:Addr) (H':Hp),H l = none -> Same H H' -> LQ FxQ H' l (S.map (tmF u)) -> Q (.ref l) H'
noncomputable def leastO:List (Option Nat) -> Option Nat -> Prop:=fun os o => (o = none -> ∀ x ∈ os,x = none) /\ ∀ k,o = some k -> some k ∈ os /\ ∀ j,some j ∈ os -> k <= j
theorem leastO_nil:leastO [] none:=⟨fun _ x h => by simp at h,fun k e => by cases e⟩
theorem leastO_none {os:List (Option Nat)} {o:Option Nat} (h:leastO os o):leastO (os ++ [none]) o:=by
  refine ⟨fun e x hx => ?_,fun k e => ⟨List.mem_append_left _ (h.2 k e).1,fun j hj => ?_⟩⟩
  . rcases List.mem_append.mp hx with h' | h'
    . exact h.1 e x h'
    . exact List.mem_singleton.mp h'
  . rcases List.mem_append.mp hj with h' | h'
    . exact (h.2 k e).2 j h'
    . cases List.mem_singleton.mp h'
theorem leastO_new {os:List (Option Nat)} {o:Option Nat} {k:Nat} (h:leastO os o) (hk:∀ m,o = some m -> k <= m):leastO (os ++ [some k]) (some k):=by
  refine ⟨fun e => (by cases e),fun k' e => ?_⟩
  cases e
  refine ⟨List.mem_append_right _ (by simp),fun j hj => ?_⟩
  rcases List.mem_append.mp hj with h' | h'
  . cases o with
    | none => have:=h.1 rfl _ h'; cases this
    | some m => exact Nat.le_trans (hk m rfl) ((h.2 m rfl).2 j h')
  . cases List.mem_singleton.mp h'; exact Nat.le_refl _
theorem leastO_old {os:List (Option Nat)} {m k:Nat} (h:leastO os (some m)) (hk:m <= k):leastO (os ++ [some k]) (some m):=by
  refine ⟨fun e => (by cases e),fun k' e => ?_⟩
  cases e
  refine ⟨List.mem_append_left _ (h.2 m rfl).1,fun j hj => ?_⟩
  rcases List.mem_append.mp hj with h' | h'
  . exact (h.2 m rfl).2 j h'
  . cases List.mem_singleton.mp h'; exact hk
noncomputable def cntA (F:List (Option Nat)) (w:Nat) (S:List Nat):List (Option Nat):=S.filterMap fun s => if s <= w then F[w - s]? else none
theorem cntA_mem {F:List (Option Nat)} {w:Nat} {S:List Nat} {o:Option Nat}:o ∈ cntA F w S ↔ ∃ s ∈ S,s <= w /\ F[w - s]? = some o:=by
  unfold cntA
  rw [List.mem_filterMap]
  constructor
  . rintro ⟨s,hs,h⟩
    split at h
    . rename_i hl
      exact ⟨s,hs,hl,h⟩
    . cases h
  . rintro ⟨s,hs,hl,h⟩
    exact ⟨s,hs,by rw [if_pos hl,h]⟩
noncomputable def spBest:Sp:=fun vs H Q _ => ∃ (p:Addr) (S:List Nat) (n:Nat),vs = [.ref p,.int n] /\ H p = some (.lst ((S.map Int.ofNat).map V.int)) /\ (∀ s ∈ S,0 < s) /\ S.length <= 100 /\ n <= 900 /\
  ∀ (l:Addr) (H':Hp) (F:List (Option Nat)),H l = none -> Same H H' -> H' l = some (.lst (F.map oV)) -> Tbl S n F -> Q (.ref l) H'
noncomputable def spList:Sp:=fun vs H Q _ => ∃ (p:Addr) (S:List Nat) (b:Addr) (F:List (Option Nat)) (n last kk:Nat),vs = [.ref p,.ref b,.int n] /\ H p = some (.lst ((S.map Int.ofNat).map V.int)) /\ (∀ s ∈ S,0 < s) /\ S.length < 64 /\ H b = some (.lst (F.map oV)) /\ Tbl S last F /\ n <= last /\ last <= 900 /\ F[n]? = some (some kk) /\
  ∀ (l:Addr) (L:List Nat) (H':Hp),H l = none -> Same H H' -> H' l = some (.lst ((L.map Int.ofNat).map V.int)) -> Grd S n L -> Q (.ref l) H'
noncomputable def spTold61 (K:PySem.W.Frag):Sp:=fun vs H Q _ => ∃ (l:Addr) (ms:List Nat) (u:Int×Int) (n:Nat) (tq:Addr),vs = [.ref l,.ref tq] /\ UnO u /\ LQ FxQ H l (ms.map (tmF u)) /\ FxQ H (.ref tq) (tmF u n) /\ (∀ m ∈ ms,0 < m) /\ (∀ m ∈ ms,m <= 100000) /\ n <= 900 /\ ms ≠ [] /\ ms.length < 50 /\ LT H /\
  ((∀ k,¬ Sums ms n k) -> ∀ H',Kp tT H H' -> LT H' -> Q (.str "none") H') /\
  ∀ (L:List Nat) (l':Addr) (H':Hp),Grd ms n L -> H l' = none -> Kp tT H H' -> LT H' -> LQ FxQ H' l' (L.map (tmF u)) -> Q (.ref l') H'
noncomputable def spLaw (K:PySem.W.Frag):Sp:=fun vs H Q _ => ∃ (a:Addr) (ns:List Int),vs = [.ref a] /\ SqL K H a (ns.map V.int) /\ ns.length <= 63 /\ LT H /\ ∀ H',Q (.bl true) H'
section
variable {P:Program} {w:World} {K:PySem.W.Frag} {mg:Str -> Option Value} {base:Heap} {k:Nat} {xt x1 x3 x4:Addr}
theorem ok_common_divisor (T:Bl mg) (d:Df K mg "common_divisor" s_common_divisor ["one","other"]  ) (W:XmS mg xt x1 x3 x4) (R_NoSum:XrS K xt x1 x3 x4 x3 3):Okf P w K mg base (k + 1) "common_divisor" ["one","other"] spGcd:=by
  refine Okf.of d sc_common_divisor (fun vs H Q E h => ?_) (fun f cdv A outer s H vs Q E hr h => ?_)
  . obtain ⟨a,b,rfl,_⟩:=h
    rfl
  . obtain ⟨a,b,rfl,q⟩:=h
    refine ⟨_,(@pss_cons _ _ _ _ _ (@ps_while _ _ _ _ _ _ PassesOwn.never (@pt_cmpR _ _ _ _ _ _ _ _ (op_neA hr.units) (pv 1) (@pe_int _ _ _ _) (nomark _)) (@pss_cons _ _ _ _ _ (@ps_set _ _ (i:=2) _ _ _ _ sc_common_divisor.nd rfl (by first | exact Or.inl rfl | exact Or.inr rfl) (@pe_op _ _ _ _ _ _ _ _ op_modN (pv 0) (pv 1)) (by rfl) (by first | exact .inl rfl | exact .inr rfl | assumption)) (@pss_cons _ _ _ _ _ (@ps_set _ _ (i:=0) _ _ _ _ sc_common_divisor.nd rfl (by first | exact Or.inl rfl | exact Or.inr rfl) (pv 1) (by rfl) (by first | exact .inl rfl | exact .inr rfl | assumption)) (@pss_one _ _ _ (@ps_set _ _ (i:=1) _ _ _ _ sc_common_divisor.nd rfl (by first | exact Or.inl rfl | exact Or.inr rfl) (pv 2) (by rfl) (by first | exact .inl rfl | exact .inr rfl | assumption)))))) (@pss_one _ _ _ (@ps_ret _ _ _ _ (@pe_callB _ _ _ _ _ _ _ _ _ c_abs rfl T.z_abs bt_abs (@pa_cons _ _ _ _ _ (pv 0) (@pa_nil _) (by rfl)) (by decide) (by decide) (by rfl) (by rfl))))),?_⟩
    walk_at "go"
    refine while_by (fun σ H' => ∃ (one other:Int) (o:Option V),σ = [some (.int one),some (.int other),o] /\ H' = H /\ Int.gcd one other = Int.gcd a b)
      (fun σ _ => match σ with | [_,some (.int z),_] => z.natAbs | _ => 0) ⟨_,_,_,rfl,rfl,rfl⟩ ?_ ?_
    . rintro σ H' ⟨one,other,o,rfl,rfl,hg⟩
      walk_at "go"
      refine i_d (fun c => ?_) (fun c => ?_)
      . subst c
        walk_at "go"
        rw [Int.gcd_zero_right] at hg
        have e:(if one < 0 then -one else one) = (Int.gcd a b:Int):=by rw [← hg]; split <;> omega
        rw [e]
        exact q
      . walk_at "go"
        refine ⟨⟨_,_,_,rfl,rfl,by rw [gcd_stepN c]; exact hg⟩,?_⟩
        show (one.fmod other).natAbs < other.natAbs
        exact fmod_lt c
    . intro σ H Q Q' hQ h
      obtain ⟨v,e1,h⟩:=h
      rcases h with ⟨e2,b',e3,q'⟩ | ⟨d,e,e2,e3,e4,e5,b',e6,q'⟩
      . exact ⟨v,e1,.inl ⟨e2,b',e3,hQ _ _ q'⟩⟩
      . exact ⟨v,e1,.inr ⟨d,e,e2,e3,e4,e5,b',e6,hQ _ _ q'⟩⟩
theorem ok_whole_tops (T:Bl mg) (d:Df K mg "whole_tops" s_whole_tops ["fractions"]  ) (W:XmS mg xt x1 x3 x4) (R_NoSum:XrS K xt x1 x3 x4 x3 3) (o_common_divisor:Okf P w K mg base k "common_divisor" ["one","other"] spGcd):Okf P w K mg base (k + 1) "whole_tops" ["fractions"] spTops:=by
  refine Okf.of d sc_whole_tops (fun vs H Q E h => ?_) (fun f cdv A outer s H vs Q E hr h => ?_)
  . obtain ⟨l,fs,B,rfl,_⟩:=h
    rfl
  . obtain ⟨l,fs,B,rfl,hl,hn,hB,hB2,hf,q⟩:=h
    refine ⟨_,(@pss_cons _ _ _ _ _ (@ps_set _ _ (i:=1) _ _ _ _ sc_whole_tops.nd rfl (by first | exact Or.inl rfl | exact Or.inr rfl) (@pe_int _ _ _ _) (by rfl) (by first | exact .inl rfl | exact .inr rfl | assumption)) (@pss_cons _ _ _ _ _ (@ps_for _ _ _ _ _ _ _ _ PassesOwn.never rfl (@pi_list _ _ _ _ (pv 0)) (@pg_name _ _ (i:=2) _ sc_whole_tops.nd rfl (by first | exact Or.inl rfl | exact Or.inr rfl) (by first | exact .inl rfl | exact .inr rfl | assumption)) (@pss_one _ _ _ (@ps_set _ _ (i:=1) _ _ _ _ sc_whole_tops.nd rfl (by first | exact Or.inl rfl | exact Or.inr rfl) (@pe_op _ _ _ _ _ _ _ _ op_mulB (@pe_op _ _ _ _ _ _ _ _ op_fdivB (pv 1) (@pe_callO _ _ _ _ _ _ _ _ _ _ o_common_divisor hr rfl (@pa_cons _ _ _ _ _ (pv 1) (@pa_cons _ _ _ _ _ (@pe_ix _ _ _ _ _ _ _ ix_LT (pv 2) (@pe_int _ _ _ _) (fun _ _ => rfl)) (@pa_nil _) (by rfl)) (by rfl)) (by decide) (by rfl) (by rfl))) (@pe_ix _ _ _ _ _ _ _ ix_LT (pv 2) (@pe_int _ _ _ _) (fun _ _ => rfl))) (by rfl) (by first | exact .inl rfl | exact .inr rfl | assumption))) (by intro _; rfl)) (@pss_one _ _ _ (@ps_ret _ _ _ _ (@pe_comp _ _ _ _ _ _ _ _ _ _ _ _ _ _ (@comp_ck _ _ (sc:=defScope s_whole_tops) (N:=["fractions","bottom","each"]) (tn:=["each"]) (names:=["bottom"]) (is:=[1]) rfl rfl (by decide +kernel) (by decide +kernel) rfl (by decide +kernel) rfl (by decide +kernel) (by decide +kernel) (by decide +kernel)) rfl (@pi_list _ _ _ _ (pv 0)) (fun _ _ _ _ => (@pg_name _ _ (i:=0) _ (show (["each","bottom"]:List Str).Nodup by decide +kernel) rfl (Or.inl rfl) (Or.inr rfl))) (fun _ _ _ _ => (@pe_op _ _ _ _ _ _ _ _ op_mulB (@pe_ix _ _ _ _ _ _ _ ix_LTc (pv 0) (@pe_int _ _ _ _) (fun _ _ => rfl)) (@pe_op _ _ _ _ _ _ _ _ op_fdivB (pv 1) (@pe_ix _ _ _ _ _ _ _ ix_LTc (pv 0) (@pe_int _ _ _ _) (fun _ _ => rfl))))) (fun _ _ _ _ => (@pts_none _)) (by intro _; rfl)))))),?_⟩
    obtain ⟨vs,hv,pv⟩:=hl
    have hvl:=Paired.length pv
    have smD:∀ D,0 < D -> D ∣ B -> Sm 100 D:=fun D h1 h2 => Sm.le (Nat.le_of_dvd (by omega) (Int.natAbs_dvd_natAbs.mpr h2)) hB2
    walk_at "go"
    refine r_listK (SqL.of hv) ?_
    refine r_forL (xs:=vs) (fun i σ G => ∃ (D:Int) (o:Option V),σ = [some (.ref l),some (.int D),o] /\ G = H /\ 0 < D /\ D ∣ B /\ ∀ f ∈ fs.take i,f.2 ∣ D) ⟨1,_,rfl,rfl,by decide,⟨B,by simp⟩,fun f hf => by simp at hf⟩ ?_ ?_ ?_
    . rintro i σ G hi ⟨D,o,rfl,rfl,_⟩
      exact SqL.of hv
    . rintro i x σ G hx ⟨D,o,rfl,rfl,hD,hDB,hDf⟩
      obtain ⟨f,hf1,tq,rfl,ht⟩:=Paired.at pv hx
      obtain ⟨f1,f2,f3⟩:=hf f (List.mem_of_getElem? hf1)
      obtain ⟨s1,s2,s3,s4⟩:=lcm_step hD f1 hDB f2
      have gp:0 < (Int.gcd D f.2:Int):=by
        have:=gcd_pos (t:=D) (b:=f.2) (by omega)
        omega
      have sg':Sm 8000 (Int.gcd D f.2:Int):=Sm.mono (Sm.le (b:=D) (by have:=Nat.le_of_dvd (by omega) (Int.gcd_dvd_natAbs_left D f.2); omega) (smD D hD hDB)) (by decide)
      have sm1:Sm 60000000 (D.fdiv (Int.gcd D f.2:Int)):=Sm.mono (Sm.le (b:=D) (natAbs_le_of_mul (by omega) (fdiv_of (by omega) (Int.gcd_dvd_left ..))) (smD D hD hDB)) (by decide)
      have sm2:Sm 60000000 f.2:=Sm.mono (smD f.2 f1 f2) (by decide)
      walk_at "go"
      refine ⟨D,f.2,rfl,?_⟩
      walk_at "go"
      refine r_fdiv ⟨by omega,sg'⟩ ?_
      walk_at "go"
      refine r_mul (.inr ⟨sm1,sm2⟩) ?_
      walk_at "go"
      refine ⟨_,_,rfl,rfl,s1,s2,fun g hg => ?_⟩
      rw [List.take_add_one,hf1] at hg
      rcases List.mem_append.mp hg with h | h
      . exact Int.dvd_trans (hDf g h) s3
      . rw [List.mem_singleton.mp h]; exact s4
    . rintro σ G ⟨D,o,rfl,rfl,hD,hDB,hDf⟩
      have hDf':∀ f ∈ fs,f.2 ∣ D:=fun f hf' => hDf f (by rw [List.take_of_length_le (by omega)]; exact hf')
      have sD:=smD D hD hDB
      walk_at "go"
      refine r_listK (SqL.of hv) ?_
      refine r_compL (xs:=vs) (by omega) (fun acc i ys G' => Kp acc G G' /\ ys = (tpV D (fs.take i)).map V.int) (fun acc h0 => ⟨Kp.new h0,rfl⟩) ?_ ?_ ?_
      . rintro acc i ys G' h0 _ ⟨kp,_⟩
        exact SqL.of (kp _ _ (ne_of_none hv h0) hv)
      . rintro acc i ys G' x h0 hx hly ha ⟨kp,rfl⟩
        obtain ⟨f,hf1,tq,rfl,ht⟩:=Paired.at pv hx
        have htG:G' tq = some (.tup [.int f.1,.int f.2]):=kp _ _ (ne_of_none ht h0) ht
        obtain ⟨f1,f2,f3⟩:=hf f (List.mem_of_getElem? hf1)
        have sm2:Sm 8000 f.2:=Sm.mono (smD f.2 f1 f2) (by decide)
        have sm1:Sm 60000000 (D.fdiv f.2):=Sm.mono (Sm.le (b:=D) (natAbs_le_of_mul (by omega) (fdiv_of (by omega) (hDf' f (List.mem_of_getElem? hf1)))) sD) (by decide)
        walk_at "go"
        refine r_fdiv ⟨by omega,sm2⟩ ?_
        walk_at "go"
        refine r_mul (.inr ⟨Sm.mono f3 (by decide),sm1⟩) ?_
        walk_at "go"
        refine c_next (List.getElem?_eq_some_iff.mp hx).1 hly ha ⟨kp.trans Kp.upd,?_⟩
        rw [List.take_add_one,hf1]
        simp [tpV]
      . rintro acc ys G' h0 ha hly ⟨kp,rfl⟩
        rw [List.take_of_length_le (by omega)] at ha
        walk_at "go"
        exact q acc G' D h0 (fun b o e => kp _ _ (ne_of_none e h0) e) hD sD hDf' ha
theorem ok_sorted_by (T:Bl mg) (d:DfC K mg "sorted_by" s_sorted_by ["fractions","things"] 79 77) (BB:BmAt mg base) (W:XmS mg xt x1 x3 x4) (R_NoSum:XrS K xt x1 x3 x4 x3 3) (o_whole_tops:Okf P w K mg base k "whole_tops" ["fractions"] spTops):Okf P w K mg base (k + 1) "sorted_by" ["fractions","things"] (spSortedBy K):=by
  refine Okf.ofC d sc_sorted_by (fun vs H Q E h => ?_) (fun f A outer s H vs Q E hr h => ?_)
  . obtain ⟨l,ms,u,rfl,_⟩:=h
    rfl
  . obtain ⟨l,ms,u,rfl,hu,hl,hn,h64,hT,q⟩:=h
    refine ⟨_,(@pss_cons _ _ _ _ _ (@ps_set _ _ (i:=2) _ _ _ _ sc_sorted_by.nd rfl (by first | exact Or.inl rfl | exact Or.inr rfl) (@pe_sortBy _ _ _ _ _ _ _ _ _ _ _ _ _ _ _ _ _ _ hr rfl rfl T.z_sorted rfl T.z_zip rfl d.hd BB rfl rfl (@pa_cons _ _ _ _ _ (@pe_callO _ _ _ _ _ _ _ _ _ _ o_whole_tops hr rfl (@pa_cons _ _ _ _ _ (pv 0) (@pa_nil _) (by rfl)) (by decide) (by rfl) (by rfl)) (@pa_cons _ _ _ _ _ (pv 1) (@pa_nil _) (by rfl)) (by rfl)) (by rfl) (by rfl) (by rfl)) (by rfl) (by first | exact .inl rfl | exact .inr rfl | assumption)) (@pss_one _ _ _ (@ps_ret _ _ _ _ (@pe_comp _ _ _ _ _ _ _ _ _ _ _ _ _ _ (@comp_ck _ _ (sc:=defScope s_sorted_by) (N:=["fractions","things","pairs"]) (tn:=["pair"]) (names:=[]) (is:=[]) rfl rfl (by decide +kernel) (by decide +kernel) rfl (by decide +kernel) rfl (by decide +kernel) (by decide +kernel) (by decide +kernel)) rfl (@pi_list _ _ _ _ (pv 2)) (fun _ _ _ _ => (@pg_name _ _ (i:=0) _ (show (["pair"]:List Str).Nodup by decide +kernel) rfl (Or.inl rfl) (Or.inr rfl))) (fun _ _ _ _ => (@pe_ix _ _ _ _ _ _ _ ix_LTc (pv 0) (@pe_int _ _ _ _) (fun _ _ => rfl))) (fun _ _ _ _ => (@pts_none _)) (by intro _; rfl))))),?_⟩
    have hlq:=hl
    obtain ⟨vs,hv,pv⟩:=hl
    have hvl:=Paired.length pv
    rw [List.length_map] at hvl
    have smF:∀ m ∈ ms,Sm 100 (tmF u m).1:=fun m hm => tm_sm hu (hn m hm)
    walk_at "go"
    refine ⟨l,ms.map (tmF u),u.2,rfl,hlq,by rw [List.length_map]; omega,hu.p2,Sm.of (by have:=hu.p2; omega) (by have:=hu.s2; show u.2 < ((2 ^ 100:Nat):Int); omega),fun f hf => ?_,fun p1 H1 D hp1 s1 hD sD hDf h1 => ?_⟩
    . obtain ⟨m,hm,rfl⟩:=List.mem_map.mp hf
      obtain ⟨a1,a2,_⟩:=hu.tm m
      exact ⟨a1,a2,smF m hm⟩
    have hDm:∀ m ∈ ms,(tmF u m).2 ∣ D:=fun m hm => hDf _ (List.mem_map.mpr ⟨m,hm,rfl⟩)
    walk_at "go"
    refine ⟨p1,l,tpV D (ms.map (tmF u)),vs,rfl,SqL.of h1,SqL.of (s1 _ _ hv),by simp [tpV,hvl],by simp [tpV]; omega,LTab.same hT s1,fun pl G tr hpl kp hTG hG htr hperm hpw => ?_⟩
    have ek:(tpV D (ms.map (tmF u))).zip vs = (ms.zip vs).map fun p => ((tmF u p.1).1 * D.fdiv (tmF u p.1).2,p.2):=by
      unfold tpV
      rw [List.map_map,List.zip_map_left]
      rfl
    obtain ⟨ys,pys,eys⟩:=perm_map_inv hperm ek
    have kpH:Kp tT H G:=s1.kp.trans kp
    have memY:∀ y ∈ ys,y.1 ∈ ms /\ FxQ H y.2 (tmF u y.1):=fun y hy => by
      have hy':=pys.mem_iff.mp hy
      obtain ⟨i,hi⟩:=List.getElem?_of_mem hy'
      rw [List.getElem?_zip_eq_some] at hi
      obtain ⟨f,hf1,hf2⟩:=Paired.at pv hi.2
      rw [List.getElem?_map,hi.1] at hf1
      cases hf1
      exact ⟨List.mem_of_getElem? hi.1,hf2⟩
    have htl:tr.length <= 500:=by
      have:=hperm.length_eq
      rw [List.length_map,List.length_zip] at this
      omega
    walk_at "go"
    refine r_listK (SqL.of hG) ?_
    refine r_compL (xs:=tr.map fun p => V.ref p.1) (by rw [List.length_map]; omega) (fun acc i zs G' => Kp acc G G' /\ zs = (tr.take i).map fun p => p.2.2) (fun acc h0 => ⟨Kp.new h0,rfl⟩) ?_ ?_ ?_
    . rintro acc i zs G' h0 _ ⟨kp',_⟩
      exact SqL.of (kp' _ _ (ne_of_none hG h0) hG)
    . rintro acc i zs G' x h0 hx hly ha ⟨kp',rfl⟩
      rw [List.getElem?_map] at hx
      obtain ⟨tp,htp,rfl⟩:=Option.map_eq_some_iff.mp hx
      have htG:=htr tp (List.mem_of_getElem? htp)
      have htG':G' tp.1 = _:=kp' _ _ (ne_of_none htG h0) htG
      walk_at "go"
      refine c_next (by rw [List.length_map]; exact (List.getElem?_eq_some_iff.mp htp).1) hly ha ⟨kp'.trans Kp.upd,?_⟩
      rw [List.take_add_one,htp]
      simp
    . rintro acc zs G' h0 ha hly ⟨kp',rfl⟩
      rw [List.length_map,List.take_length] at ha
      have sG:Same G G':=fun b o e => kp' _ _ (ne_of_none e h0) e
      have kpG:Kp tT H G':=kpH.trans sG.kp
      have e2:(tr.map fun p => p.2.2) = ys.map (·.2):=by
        have:=congrArg (List.map Prod.snd) eys
        simpa [List.map_map,Function.comp_def] using this
      walk_at "go"
      refine q acc G' (ys.map (·.1)) (kTf kpH hTG h0) kpG (LTab.same hTG sG) ?_ ?_ ⟨_,ha,?_⟩
      . have:=pys.map (·.1)
        rwa [List.map_fst_zip (by omega)] at this
      . have h1:(tr.map (·.2)).Pairwise (fun p q => p.1 <= q.1):=List.pairwise_map.mpr hpw
        rw [eys,List.pairwise_map] at h1
        rw [List.pairwise_map]
        refine h1.imp_of_mem fun {a b} ha hb hab => ?_
        exact tp_le hu hD (hDm _ (memY a ha).1) (hDm _ (memY b hb).1) hab
      . rw [e2,List.map_map]
        have:∀ (l:List (Nat×V)),(∀ y ∈ l,FxQ H y.2 (tmF u y.1)) -> Paired (FxQ G') (l.map (·.2)) (l.map (tmF u ∘ (·.1))):=fun l => by
          induction l with
          | nil => intro _; exact .nil
          | cons y l ih => intro hy; exact .cons (FxQ.tk (hy y List.mem_cons_self) kpG hT) (ih fun z hz => hy z (List.mem_cons_of_mem _ hz))
        exact this ys fun y hy => (memY y hy).2
theorem ok_units_of (T:Bl mg) (d:Df K mg "units_of" s_units_of ["times"]  ) (W:XmS mg xt x1 x3 x4) (R_NoSum:XrS K xt x1 x3 x4 x3 3) (o_common_divisor:Okf P w K mg base k "common_divisor" ["one","other"] spGcd) (o_whole_tops:Okf P w K mg base k "whole_tops" ["fractions"] spTops):Okf P w K mg base (k + 1) "units_of" ["times"] spUnits:=by
  refine Okf.of d sc_units_of (fun vs H Q E h => ?_) (fun f cdv A outer s H vs Q E hr h => ?_)
  . obtain ⟨l,ms,u,rfl,_⟩:=h
    rfl
  . obtain ⟨l,ms,u,rfl,hu,hl,hn,h64,hp,q⟩:=h
    refine ⟨_,(@pss_cons _ _ _ _ _ (@ps_set _ _ (i:=1) _ _ _ _ sc_units_of.nd rfl (by first | exact Or.inl rfl | exact Or.inr rfl) (@pe_callO _ _ _ _ _ _ _ _ _ _ o_whole_tops hr rfl (@pa_cons _ _ _ _ _ (pv 0) (@pa_nil _) (by rfl)) (by decide) (by rfl) (by rfl)) (by rfl) (by first | exact .inl rfl | exact .inr rfl | assumption)) (@pss_cons _ _ _ _ _ (@ps_set _ _ (i:=2) _ _ _ _ sc_units_of.nd rfl (by first | exact Or.inl rfl | exact Or.inr rfl) (@pe_int _ _ _ _) (by rfl) (by first | exact .inl rfl | exact .inr rfl | assumption)) (@pss_cons _ _ _ _ _ (@ps_for _ _ _ _ _ _ _ _ PassesOwn.never rfl (@pi_list _ _ _ _ (pv 1)) (@pg_name _ _ (i:=3) _ sc_units_of.nd rfl (by first | exact Or.inl rfl | exact Or.inr rfl) (by first | exact .inl rfl | exact .inr rfl | assumption)) (@pss_one _ _ _ (@ps_set _ _ (i:=2) _ _ _ _ sc_units_of.nd rfl (by first | exact Or.inl rfl | exact Or.inr rfl) (@pe_callO _ _ _ _ _ _ _ _ _ _ o_common_divisor hr rfl (@pa_cons _ _ _ _ _ (pv 2) (@pa_cons _ _ _ _ _ (pv 3) (@pa_nil _) (by rfl)) (by rfl)) (by decide) (by rfl) (by rfl)) (by rfl) (by first | exact .inl rfl | exact .inr rfl | assumption))) (by intro _; rfl)) (@pss_one _ _ _ (@ps_ret _ _ _ _ (@pe_comp _ _ _ _ _ _ _ _ _ _ _ _ _ _ (@comp_ck _ _ (sc:=defScope s_units_of) (N:=["times","tops","unit","top"]) (tn:=["top"]) (names:=["unit"]) (is:=[2]) rfl rfl (by decide +kernel) (by decide +kernel) rfl (by decide +kernel) rfl (by decide +kernel) (by decide +kernel) (by decide +kernel)) rfl (@pi_list _ _ _ _ (pv 1)) (fun _ _ _ _ => (@pg_name _ _ (i:=0) _ (show (["top","unit"]:List Str).Nodup by decide +kernel) rfl (Or.inl rfl) (Or.inr rfl))) (fun _ _ _ _ => (@pe_op _ _ _ _ _ _ _ _ op_fdivB (pv 0) (pv 1))) (fun _ _ _ _ => (@pts_none _)) (by intro _; rfl))))))),?_⟩
    have smF:∀ m ∈ ms,Sm 100 (tmF u m).1:=fun m hm => tm_sm hu (hn m hm)
    walk_at "go"
    refine ⟨l,ms.map (tmF u),u.2,rfl,hl,by rw [List.length_map]; omega,hu.p2,Sm.of (by have:=hu.p2; omega) (by have:=hu.s2; show u.2 < ((2 ^ 100:Nat):Int); omega),fun f hf => ?_,fun p1 H1 D hp1 s1 hD sD hDf h1 => ?_⟩
    . obtain ⟨m,hm,rfl⟩:=List.mem_map.mp hf
      obtain ⟨a1,a2,_⟩:=hu.tm m
      exact ⟨a1,a2,smF m hm⟩
    have hDm:∀ m ∈ ms,(tmF u m).2 ∣ D:=fun m hm => hDf _ (List.mem_map.mpr ⟨m,hm,rfl⟩)
    obtain ⟨ts,ets⟩:∃ ts:List Nat,tpV D (ms.map (tmF u)) = ts.map Int.ofNat:=⟨(tpV D (ms.map (tmF u))).map Int.toNat,by
      rw [List.map_map]
      refine ((List.map_congr_left fun x hx => ?_).trans (List.map_id _)).symm
      obtain ⟨f,hf,rfl⟩:=List.mem_map.mp hx
      obtain ⟨m,hm,rfl⟩:=List.mem_map.mp hf
      exact Int.toNat_of_nonneg (tp_nn hu hD (hDm m hm))⟩
    have ett:ts.map (· * u.2.toNat) = ms.map (· * (u.1 * D).toNat):=by
      have h2:=hu.p2
      have h3:=Int.mul_pos hu.p1 hD
      have e:(tpV D (ms.map (tmF u))).map (· * u.2) = ms.map fun (m:Nat) => (m:Int) * (u.1 * D):=by
        unfold tpV
        rw [List.map_map,List.map_map]
        exact List.map_congr_left fun m hm => tp_eq hu (hDm m hm)
      rw [ets,List.map_map] at e
      have:=congrArg (List.map Int.toNat) e
      rw [List.map_map,List.map_map] at this
      refine (List.map_congr_left fun x _ => ?_).trans (this.trans (List.map_congr_left fun x _ => ?_))
      . show x * u.2.toNat = ((x:Int) * u.2).toNat
        rw [Int.toNat_mul (by omega) (by omega),Int.toNat_natCast]
      . show ((x:Int) * (u.1 * D)).toNat = x * (u.1 * D).toNat
        rw [Int.toNat_mul (by omega) (by omega),Int.toNat_natCast]
    have eud:=unit_div (by have:=hu.p2; omega) (by have:=Int.mul_pos hu.p1 hD; omega) ett hp
    have htl:ts.length = ms.length:=by have:=congrArg List.length ett; simpa using this
    rw [ets] at h1
    have gpos:0 < gcdL ts /\ Sm 8000 (gcdL ts:Int):=by
      obtain ⟨m,hm,hm0⟩:=hp
      obtain ⟨i,hi⟩:=List.getElem?_of_mem hm
      have:=congrArg (fun l => l[i]?) ett
      simp only [List.getElem?_map,hi,Option.map_some] at this
      obtain ⟨x,hx,ex⟩:=Option.map_eq_some_iff.mp this
      have hx0:0 < x:=Nat.pos_of_ne_zero fun z => by
        rw [z,Nat.zero_mul] at ex
        have:=Nat.mul_pos hm0 (show 0 < (u.1 * D).toNat by have:=Int.mul_pos hu.p1 hD; omega)
        omega
      refine ⟨gcdL_pos (List.mem_of_getElem? hx) hx0,?_⟩
      have hxm:(x:Int) ∈ tpV D (ms.map (tmF u)):=by rw [ets]; exact List.mem_map.mpr ⟨x,List.mem_of_getElem? hx,rfl⟩
      obtain ⟨f,hf,ef⟩:=List.mem_map.mp hxm
      obtain ⟨m',hm',rfl⟩:=List.mem_map.mp hf
      obtain ⟨a1,a2,a3,a4,a5⟩:=hu.tm m'
      have s1':Sm 100 (tmF u m').1:=smF m' hm'
      have s2':Sm 100 (D.fdiv (tmF u m').2):=Sm.le (b:=D) (natAbs_le_of_mul (by omega) (fdiv_of (by omega) (hDm m' hm'))) sD
      have s3':=Sm.mul s1' s2'
      rw [ef] at s3'
      refine Sm.mono (Sm.le (b:=(x:Int)) ?_ s3') (by decide)
      have:=Nat.le_of_dvd hx0 (gcdL_dvd (List.mem_of_getElem? hx))
      omega
    walk_at "go"
    refine r_listK (SqL.of h1) ?_
    refine r_forL (xs:=(ts.map Int.ofNat).map V.int) (fun i σ G => ∃ (o:Option V),σ = [some (.ref l),some (.ref p1),some (.int (gcdL (ts.take i):Int)),o] /\ G = H1) ⟨_,rfl,rfl⟩ ?_ ?_ ?_
    . rintro i σ G hi ⟨o,rfl,rfl⟩
      exact SqL.of h1
    . rintro i x σ G hx ⟨o,rfl,rfl⟩
      rw [List.map_map,List.getElem?_map] at hx
      obtain ⟨x,hx',rfl⟩:=Option.map_eq_some_iff.mp hx
      walk_at "go"
      refine ⟨_,_,rfl,?_⟩
      walk_at "go"
      refine ⟨some (V.int (Int.ofNat x)),?_,rfl⟩
      rw [List.take_add_one,hx']
      show _ = [_,_,some (V.int (gcdL (ts.take i ++ [x]):Int)),_]
      rw [gcdL_snoc]
      rfl
    . rintro σ G ⟨o,rfl,rfl⟩
      rw [List.length_map,List.length_map,List.take_length]
      obtain ⟨gpos,sg'⟩:=gpos
      walk_at "go"
      refine r_listK (SqL.of h1) ?_
      refine r_compL (xs:=(ts.map Int.ofNat).map V.int) (by rw [List.length_map,List.length_map]; omega) (fun acc i ys G' => Kp acc G G' /\ ys = (((ts.take i).map (· / gcdL ts)).map Int.ofNat).map V.int) (fun acc h0 => ⟨Kp.new h0,rfl⟩) ?_ ?_ ?_
      . rintro acc i ys G' h0 _ ⟨kp,_⟩
        exact SqL.of (kp _ _ (ne_of_none h1 h0) h1)
      . rintro acc i ys G' x h0 hx hly ha ⟨kp,rfl⟩
        rw [List.map_map,List.getElem?_map] at hx
        obtain ⟨x,hx',rfl⟩:=Option.map_eq_some_iff.mp hx
        walk_at "go"
        refine r_fdiv ⟨by omega,sg'⟩ ?_
        walk_at "go"
        refine c_next (by rw [List.length_map,List.length_map]; exact (List.getElem?_eq_some_iff.mp hx').1) hly ha ⟨kp.trans Kp.upd,?_⟩
        rw [List.take_add_one,hx']
        simp only [List.map_append,List.map_cons,List.map_nil,Option.toList]
        congr 3
        rw [Int.fdiv_eq_ediv_of_nonneg _ (Int.natCast_nonneg _)]
        rfl
      . rintro acc ys G' h0 ha hly ⟨kp,rfl⟩
        rw [List.length_map,List.length_map,List.take_length,eud] at ha
        walk_at "go"
        exact q acc G' (s1.free h0) (s1.trans fun b o e => kp _ _ (ne_of_none e h0) e) ha
theorem ok_fewest_parts (T:Bl mg) (d:Df K mg "fewest_parts" s_fewest_parts ["parts","last"]  ) (W:XmS mg xt x1 x3 x4) (R_NoSum:XrS K xt x1 x3 x4 x3 3):Okf P w K mg base (k + 1) "fewest_parts" ["parts","last"] spFewest:=by
  refine Okf.of d sc_fewest_parts (fun vs H Q E h => ?_) (fun f cdv A outer s H vs Q E hr h => ?_)
  . obtain ⟨p,S,n,rfl,_⟩:=h
    rfl
  . obtain ⟨p,S,n,rfl,hp,hS,hl,hn,q⟩:=h
    refine ⟨_,(@pss_cons _ _ _ _ _ (@ps_set _ _ (i:=2) _ _ _ _ sc_fewest_parts.nd rfl (by first | exact Or.inl rfl | exact Or.inr rfl) (@pe_lst _ _ _ _ (@pa_cons _ _ _ _ _ (@pe_int _ _ _ _) (@pa_nil _) (by rfl))) (by rfl) (by first | exact .inl rfl | exact .inr rfl | assumption)) (@pss_cons _ _ _ _ _ (@ps_for _ _ _ _ _ _ _ _ PassesOwn.never rfl (@pi_range2 _ _ _ _ _ _ _ rfl T.z_range (@pa_cons _ _ _ _ _ (@pe_int _ _ _ _) (@pa_cons _ _ _ _ _ (@pe_op _ _ _ _ _ _ _ _ op_addA (pv 1) (@pe_int _ _ _ _)) (@pa_nil _) (by rfl)) (by rfl)) (by rfl) (by rfl)) (@pg_name _ _ (i:=3) _ sc_fewest_parts.nd rfl (by first | exact Or.inl rfl | exact Or.inr rfl) (by first | exact .inl rfl | exact .inr rfl | assumption)) (@pss_cons _ _ _ _ _ (@ps_setC _ _ _ _ _ _ _ _ _ _ _ _ _ _ (i:=4) _ _ _ sc_fewest_parts.nd rfl (by first | exact Or.inl rfl | exact Or.inr rfl) (@comp_ck _ _ (sc:=defScope s_fewest_parts) (N:=["parts","last","fewest","whole","counts"]) (tn:=["part"]) (names:=["whole","fewest"]) (is:=[3,2]) rfl rfl (by decide +kernel) (by decide +kernel) rfl (by decide +kernel) rfl (by decide +kernel) (by decide +kernel) (by decide +kernel)) rfl (@pi_list _ _ _ _ (pv 0)) (fun _ _ _ _ => (@pg_name _ _ (i:=0) _ (show (["part","whole","fewest"]:List Str).Nodup by decide +kernel) rfl (Or.inl rfl) (Or.inr rfl))) (fun _ _ _ _ => (@pe_ix _ _ _ _ _ _ _ ix_LTc (pv 2) (@pe_op _ _ _ _ _ _ _ _ op_sub (pv 1) (pv 0)) (fun _ _ => rfl))) (fun _ _ _ _ => (@pts_one _ _ _ (@PW.pt _ _ _ (@pw_and _ _ _ _ _ _ _ (@pt_cmpR _ _ _ _ _ _ _ _ op_le (pv 0) (pv 1) (nomark _)) (@pw_and1 _ _ _ _ (@pt_cmpR _ _ _ _ _ _ _ _ op_notN2 (@pe_ix _ _ _ _ _ _ _ ix_LTc (pv 2) (@pe_op _ _ _ _ _ _ _ _ op_sub (pv 1) (pv 0)) (fun _ _ => rfl)) (@pe_non _ _ _) (nomark _))))))) (by intro _; rfl) (by rfl) (by first | exact .inl rfl | exact .inr rfl | assumption)) (@pss_one _ _ _ (@ps_expr _ _ _ _ (@pe_bm _ _ _ _ _ _ _ _ _ _ _ _ PySem.F.plainAttrs_list PySem.F.slot_list_append PySem.F.type_list_append mt_append (pv 2) (@pa_cons _ _ _ _ _ (@pe_ifExp _ _ _ _ _ _ _ _ (@pt_tru _ _ _ (pv 4) (by intro _; rfl)) (@pe_op _ _ _ _ _ _ _ _ op_addA (@pe_callB _ _ _ _ _ _ _ _ _ (c_minL rfl) rfl T.z_min bt_min (@pa_cons _ _ _ _ _ (pv 4) (@pa_nil _) (by rfl)) (by decide) (by decide) (by rfl) (by rfl)) (@pe_int _ _ _ _)) (@pe_non _ _ _)) (@pa_nil _) (by rfl)) (by rfl) (by rfl) (by rfl) (by rfl) (by rfl)) (by rfl)))) (by intro _; rfl)) (@pss_one _ _ _ (@ps_ret _ _ _ _ (pv 2))))),?_⟩
    walk_at "go"
    refine r_lstK fun l hl0 => ?_
    walk_at "go"
    refine ⟨1,(n:Int) + 1,rfl,by omega,?_⟩
    have en:((n:Int) + 1 - 1).toNat = n:=by omega
    rw [en]
    refine r_forR (n:=n) (fun i σ G => ∃ (F:List (Option Nat)) (o1 o2:Option V),σ = [some (.ref p),some (.int n),some (.ref l),o1,o2] /\ Kp l H G /\ G l = some (.lst (F.map oV)) /\ Tbl S i F) ⟨[some 0],_,_,rfl,Kp.new hl0,upd_same,rfl,?_⟩ ?_ ?_
    . intro w o h
      cases w with
      | zero => cases h; exact isB_zero
      | succ w => simp at h
    . rintro i σ G hi ⟨F,o1,o2,rfl,kp,hF,hFl,hFb⟩
      have sG:Same H G:=fun b o e => kp _ _ (ne_of_none e hl0) e
      have hpG:=sG _ _ hp
      have ix:∀ s ∈ S,s <= i + 1 -> ∃ o,F[i + 1 - s]? = some o:=fun s hs hl1 => ⟨_,List.getElem?_eq_getElem (by have:=hS s hs; omega)⟩
      walk_at "go"
      refine r_listK (SqL.of hpG) ?_
      refine r_compLT (xs:=(S.map Int.ofNat).map V.int) (by rw [List.length_map,List.length_map]; omega) (fun acc j ys G' => Kp acc G G' /\ ys = ((cntW F (i + 1) (S.take j)).map Int.ofNat).map V.int) (fun acc h0 => ⟨Kp.new h0,rfl⟩) ?_ ?_ ?_
      . rintro acc j ys G' h0 _ ⟨kp',_⟩
        exact SqL.of (kp' _ _ (ne_of_none hpG h0) hpG)
      . rintro acc j ys G' x h0 hx hly ha ⟨kp',rfl⟩
        rw [List.map_map,List.getElem?_map] at hx
        obtain ⟨s,hs,e⟩:=Option.map_eq_some_iff.mp hx
        obtain rfl:x = V.int (s:Int):=e.symm
        have hsS:=List.mem_of_getElem? hs
        have hlt:j < ((S.map Int.ofNat).map V.int).length:=by rw [List.length_map,List.length_map]; exact (List.getElem?_eq_some_iff.mp hs).1
        have hF':G' l = some (.lst (F.map oV)):=kp' _ _ (ne_of_none hF h0) hF
        have skip:(if s <= i + 1 then (F[i + 1 - s]?).join else none) = none -> fSkip ((S.map Int.ofNat).map V.int).length acc (fun j ys G' => Kp acc G G' /\ ys = ((cntW F (i + 1) (S.take j)).map Int.ofNat).map V.int) (((cntW F (i + 1) (S.take j)).map Int.ofNat).map V.int) j G':=fun e => by
          refine f_skip hlt hly ha ⟨kp',?_⟩
          rw [List.take_add_one,hs]
          unfold cntW
          rw [List.filterMap_append]
          simp [e]
        walk_at "go"
        refine i_d (fun c => ?_) (fun c => ?_)
        . have hle:s <= i + 1:=by have:(s:Int) <= 1 + i:=c; omega
          obtain ⟨o,ho⟩:=ix s hsS hle
          have hix:atI (F.map oV) (1 + (i:Int) - (s:Int)) = some (oV o):=by
            rw [show 1 + (i:Int) - (s:Int) = ((i + 1 - s:Nat):Int) by omega]
            exact atI_nat (by rw [List.getElem?_map,ho]; rfl)
          walk_at "go"
          refine r_ixl hF' hix ?_
          walk_at "go"
          cases o with
          | none =>
            refine r_noNn ?_
            walk_at "go"
            exact skip (by rw [if_pos hle,ho]; rfl)
          | some k =>
            refine r_noNI ?_
            walk_at "go"
            refine r_ixl hF' hix ?_
            walk_at "go"
            refine f_next hlt hly ha ⟨kp'.trans Kp.upd,?_⟩
            rw [List.take_add_one,hs]
            unfold cntW
            rw [List.filterMap_append]
            simp [hle,ho,oV]
        . walk_at "go"
          exact skip (by rw [if_neg (by have:¬ (s:Int) <= 1 + i:=c; omega)])
      . rintro acc ys G' h0 ha hly ⟨kp',rfl⟩
        rw [List.length_map,List.length_map,List.take_length] at ha
        have hF':G' l = some (.lst (F.map oV)):=kp' _ _ (ne_of_none hF h0) hF
        have sG':Same G G':=fun b o e => kp' _ _ (ne_of_none e h0) e
        generalize hcs:cntW F (i + 1) S = cs at ha
        have fin:∀ o,(o = none -> cs = []) -> (∀ k,o = some k -> ∃ j,k = j + 1 /\ j ∈ cs /\ ∀ x ∈ cs,j <= x) -> Tbl S (i + 1) (F ++ [o]):=fun o h0 h1 => by
          refine ⟨by rw [List.length_append,hFl]; rfl,fun w o' h => ?_⟩
          rcases Nat.lt_or_ge w F.length with hw | hw
          . rw [List.getElem?_append_left hw] at h
            exact hFb w o' h
          . rw [List.getElem?_append_right hw] at h
            have hw0:w - F.length = 0:=by
              rcases Nat.eq_zero_or_pos (w - F.length) with z | z
              . exact z
              . rw [List.getElem?_eq_none (by simp only [List.length_singleton]; exact z)] at h; cases h
            rw [hw0] at h
            cases h
            rw [show w = i + 1 by omega]
            exact tbl_next hS hFl hFb (fun e => by rw [hcs]; exact h0 e) fun k e => by rw [hcs]; exact h1 k e
        walk_at "go"
        cases cs with
        | nil =>
          refine ⟨false,.inl ⟨_,SqL.of ha,rfl⟩,?_⟩
          walk_at "go"
          refine r_app hF' (by rw [List.length_map]; omega) ?_
          walk_at "go"
          exact ⟨F ++ [none],_,_,rfl,(kp.trans sG'.kp).trans Kp.upd,by rw [upd_same,List.map_append]; rfl,fin none (fun _ => rfl) fun k e => by cases e⟩
        | cons c cs =>
          refine ⟨true,.inl ⟨_,SqL.of ha,rfl⟩,?_⟩
          walk_at "go"
          refine r_minL ha (by simp) fun m hm hmin => ?_
          obtain ⟨j,hj,rfl⟩:=List.mem_map.mp hm
          walk_at "go"
          refine r_app hF' (by rw [List.length_map]; omega) ?_
          walk_at "go"
          exact ⟨F ++ [some (j + 1)],_,_,rfl,(kp.trans sG'.kp).trans Kp.upd,by rw [upd_same,List.map_append]; rfl,fin (some (j + 1)) (fun e => by cases e) fun k e => ⟨j,by cases e; rfl,hj,fun x hx => by have:=hmin x (List.mem_map.mpr ⟨x,hx,rfl⟩); exact Int.ofNat_le.mp this⟩⟩
    . rintro σ G ⟨F,o1,o2,rfl,kp,hF,hT⟩
      walk_at "go"
      exact q l G F hl0 (fun b o e => kp _ _ (ne_of_none e hl0) e) hF hT
theorem ok_first_part (T:Bl mg) (d:Df K mg "first_part" s_first_part ["parts","fewest","left"]  ) (W:XmS mg xt x1 x3 x4) (R_NoSum:XrS K xt x1 x3 x4 x3 3):Okf P w K mg base (k + 1) "first_part" ["parts","fewest","left"] spFirst:=by
  refine Okf.of d sc_first_part (fun vs H Q E h => ?_) (fun f cdv A outer s H vs Q E hr h => ?_)
  . obtain ⟨p,S,f',F,n,k',last,rfl,_⟩:=h
    rfl
  . obtain ⟨p,S,f',F,n,k',last,rfl,hp,hS,hl,hF,hT,h0,h1,hk,q⟩:=h
    refine ⟨_,(@pss_cons _ _ _ _ _ (@ps_for _ _ _ _ _ _ _ _ PassesOwn.never rfl (@pi_enum _ _ _ _ _ _ _ _ rfl T.z_enumerate (@pa_cons _ _ _ _ _ (pv 0) (@pa_nil _) (by rfl)) (by rfl)) (@pg_tup _ _ _ _ _ (n:=2) rfl (@pgs_cons _ _ _ _ _ (@pg_name _ _ (i:=3) _ sc_first_part.nd rfl (by first | exact Or.inl rfl | exact Or.inr rfl) (by first | exact .inl rfl | exact .inr rfl | assumption)) (@pgs_cons _ _ _ _ _ (@pg_name _ _ (i:=4) _ sc_first_part.nd rfl (by first | exact Or.inl rfl | exact Or.inr rfl) (by first | exact .inl rfl | exact .inr rfl | assumption)) (@pgs_nil _) (by rfl)) (by rfl)) (by rfl) (by rfl)) (@pss_one _ _ _ (@ps_if _ _ _ _ _ _ _ _ (@PW.pt _ _ _ (@pw_and _ _ _ _ _ _ _ (@pt_cmpR _ _ _ _ _ _ _ _ op_le (pv 4) (pv 2) (nomark _)) (@pw_and1 _ _ _ _ (@pt_cmpR _ _ _ _ _ _ _ _ (op_eqA hr.units) (@pe_ix _ _ _ _ _ _ _ ix_LT (pv 1) (@pe_op _ _ _ _ _ _ _ _ op_sub (pv 2) (pv 4)) (fun _ _ => rfl)) (@pe_op _ _ _ _ _ _ _ _ op_sub (@pe_ix _ _ _ _ _ _ _ ix_LT (pv 1) (pv 2) (fun _ _ => rfl)) (@pe_int _ _ _ _)) (nomark _))))) (@pss_one _ _ _ (@ps_ret _ _ _ _ (pv 3))) (@pss_nil _))) (by intro _; rfl)) (@pss_one _ _ _ (@ps_ret _ _ _ _ (@pe_non _ _ _)))),?_⟩
    have hx0:∃ s ∈ S,s <= n /\ isB S (n - s) (some k'):=by
      have hB:=hT.2 n _ hk
      obtain ⟨s,j,hs,hl',ej,hj⟩:=hB.1.head h0
      cases ej
      refine ⟨s,hs,hl',hj,fun i hi => ?_⟩
      have:=hB.2 _ (hi.cons hs hl')
      omega
    have at':∀ s,0 < s -> s <= n -> ∃ o,F[n - s]? = some o /\ isB S (n - s) o:=fun s h2 h3 => by
      have hlt:n - s < F.length:=by rw [hT.1]; omega
      exact ⟨_,List.getElem?_eq_getElem hlt,hT.2 _ _ (List.getElem?_eq_getElem hlt)⟩
    walk_at "go"
    refine ⟨p,rfl,⟨_,SqL.of hp⟩,?_⟩
    refine r_forE (xs:=(S.map Int.ofNat).map V.int) (fun i σ G => ∃ (o1 o2:Option V),σ = [some (.ref p),some (.ref f'),some (.int n),o1,o2] /\ Same H G /\ ∀ j s',j < i -> S[j]? = some s' -> s' <= n -> ¬ isB S (n - s') (some k')) ⟨_,_,rfl,Same.refl _,fun j s' h => by omega⟩ ?_ ?_ ?_
    . rintro i σ G hi ⟨o1,o2,rfl,sG,_⟩
      exact SqL.of (sG _ _ hp)
    . rintro i x T' σ G hx hT' ⟨o1,o2,rfl,sG,hno⟩
      rw [List.map_map,List.getElem?_map] at hx
      obtain ⟨s',hs,e⟩:=Option.map_eq_some_iff.mp hx
      obtain rfl:x = V.int (s':Int):=e.symm
      have hsS:=List.mem_of_getElem? hs
      have s2:=sG.trans (Same.new (o:=.tup [.int i,.int (s':Int)]) hT')
      have ht:=upd_same (H:=G) (a:=T') (o:=.tup [.int i,.int (s':Int)])
      generalize L2.upd G T' (.tup [.int i,.int (s':Int)]) = G2 at s2 ht ⊢
      have more:(s' <= n -> ¬ isB S (n - s') (some k')) -> ∀ j s'',j < i + 1 -> S[j]? = some s'' -> s'' <= n -> ¬ isB S (n - s'') (some k'):=fun h j s'' hj hs'' hl'' => by
        rcases Nat.lt_or_ge j i with h3 | h3
        . exact hno j s'' h3 hs'' hl''
        . have:j = i:=by omega
          subst this
          rw [hs] at hs''
          cases hs''
          exact h hl''
      have hF2:=s2 _ _ hF
      walk_at "go"
      refine i_d (fun c => ?_) (fun c => ?_)
      . have hle:s' <= n:=by omega
        obtain ⟨o,ho,hb⟩:=at' s' (hS s' hsS) hle
        walk_at "go"
        refine r_ixl hF2 (v:=oV o) (by rw [show (n:Int) - (s':Int) = ((n - s':Nat):Int) by omega]; exact atI_nat (by rw [List.getElem?_map,ho]; rfl)) ?_
        walk_at "go"
        refine r_ixl hF2 (v:=V.int ((k' + 1:Nat):Int)) (atI_nat (by rw [List.getElem?_map,hk]; rfl)) ?_
        walk_at "go"
        cases o with
        | none =>
          refine e_NI ?_
          walk_at "go"
          exact ⟨_,_,rfl,s2,more fun _ h => by have:=h.uniq hb; cases this⟩
        | some j =>
          refine e_int ?_
          walk_at "go"
          refine i_d (fun c2 => ?_) (fun c2 => ?_)
          . have:j = k':=by omega
            subst this
            walk_at "go"
            exact q i s' G2 s2 hs hle hb hno
          . walk_at "go"
            exact ⟨_,_,rfl,s2,more fun _ h => by have:=h.uniq hb; cases this; omega⟩
      . walk_at "go"
        exact ⟨_,_,rfl,s2,more fun h => by omega⟩
    . rintro σ G ⟨o1,o2,rfl,sG,hno⟩
      obtain ⟨s,hs,hl',hb⟩:=hx0
      obtain ⟨j,hj⟩:=List.getElem?_of_mem hs
      rw [List.length_map,List.length_map] at hno
      exact absurd hb (hno j s (List.getElem?_eq_some_iff.mp hj).1 hj hl')
set_option maxHeartbeats 0 in
theorem ok_made_of (T:Bl mg) (d:Df K mg "made_of" s_made_of ["box","time"] ) (W:XmS mg xt x1 x3 x4) (R_NoSum:XrS K xt x1 x3 x4 x3 3) (o_first_part:Okf P w K mg base k "first_part" ["parts","fewest","left"] spFirst) (o_fewest_parts:Okf P w K mg base k "fewest_parts" ["parts","last"] spFewest) (o_units_of:Okf P w K mg base k "units_of" ["times"] spUnits) (o_sorted_by:Okf P w K mg base k "sorted_by" ["fractions","things"] (spSortedBy K)):OkfX P w K mg base (k + 1) "made_of" ["box","time"] [] (spMade K x3):=by
  refine OkfX.of d sc_made_of (fun vs H Q E h => ?_) (fun f cdv A outer s H vs Q E hr h => ?_)
  . obtain ⟨l,ms,u,n,tq,rfl,_⟩:=h
    rfl
  . obtain ⟨l,ms,u,n,tq,rfl,hu,hl,ht,hp,hm,hn,h1,h64,hT,q1,q2⟩:=h
    refine ⟨_,(@pss_cons _ _ _ _ _ (@ps_set _ _ (i:=2) _ _ _ _ sc_made_of.nd rfl (by first | exact Or.inl rfl | exact Or.inr rfl) (@pe_lrev _ _ _ _ _ _ _ rfl rfl T.z_list rfl T.z_reversed (@pe_callO _ _ _ _ _ _ _ _ _ _ o_sorted_by hr rfl (@pa_cons _ _ _ _ _ (pv 0) (@pa_cons _ _ _ _ _ (pv 0) (@pa_nil _) (by rfl)) (by rfl)) (by decide) (by rfl) (by rfl)) (by rfl) (by rfl)) (by rfl) (by first | exact .inl rfl | exact .inr rfl | assumption)) (@pss_cons _ _ _ _ _ (@ps_set _ _ (i:=3) _ _ _ _ sc_made_of.nd rfl (by first | exact Or.inl rfl | exact Or.inr rfl) (@pe_callO _ _ _ _ _ _ _ _ _ _ o_units_of hr rfl (@pa_cons _ _ _ _ _ (@pe_op _ _ _ _ _ _ _ _ op_addA (pv 2) (@pe_lst _ _ _ _ (@pa_cons _ _ _ _ _ (pv 1) (@pa_nil _) (by rfl)))) (@pa_nil _) (by rfl)) (by decide) (by rfl) (by rfl)) (by rfl) (by first | exact .inl rfl | exact .inr rfl | assumption)) (@pss_cons _ _ _ _ _ (@ps_set _ _ (i:=4) _ _ _ _ sc_made_of.nd rfl (by first | exact Or.inl rfl | exact Or.inr rfl) (@pe_bm0 _ _ _ _ _ _ _ _ _ PySem.F.plainAttrs_list PySem.F.slot_list_pop PySem.F.type_list_pop mt_pop (pv 3) (by rfl) (by rfl)) (by rfl) (by first | exact .inl rfl | exact .inr rfl | assumption)) (@pss_cons _ _ _ _ _ (@ps_set _ _ (i:=5) _ _ _ _ sc_made_of.nd rfl (by first | exact Or.inl rfl | exact Or.inr rfl) (@pe_callO _ _ _ _ _ _ _ _ _ _ o_fewest_parts hr rfl (@pa_cons _ _ _ _ _ (pv 3) (@pa_cons _ _ _ _ _ (pv 4) (@pa_nil _) (by rfl)) (by rfl)) (by decide) (by rfl) (by rfl)) (by rfl) (by first | exact .inl rfl | exact .inr rfl | assumption)) (@pss_cons _ _ _ _ _ (@ps_if _ _ _ _ _ _ _ _ (@pt_cmpR _ _ _ _ _ _ _ _ op_isN2 (@pe_ix _ _ _ _ _ _ _ ix_LT (pv 5) (pv 4) (fun _ _ => rfl)) (@pe_non _ _ _) (nomark _)) (@pss_one _ _ _ (@ps_raiseR _ _ _ _ _ _ _ _ _ _ (fun _ _ _ _ _ _ _ _ I m q => xe_new I m q) rfl rfl W.m_NoSum R_NoSum.e (@pa_cons _ _ _ _ _ (@pe_str _ _ _ _) (@pa_nil _) (by rfl)) (by decide) (by rfl) (by rfl))) (@pss_nil _)) (@pss_cons _ _ _ _ _ (@ps_set _ _ (i:=6) _ _ _ _ sc_made_of.nd rfl (by first | exact Or.inl rfl | exact Or.inr rfl) (@pe_lst _ _ _ _ (@pa_nil _)) (by rfl) (by first | exact .inl rfl | exact .inr rfl | assumption)) (@pss_cons _ _ _ _ _ (@PS.nox _ _ _ (@ps_while _ _ _ _ _ _ PassesOwn.never (@pt_cmpR _ _ _ _ _ _ _ _ op_gt (pv 4) (@pe_int _ _ _ _) (nomark _)) (@pss_cons _ _ _ _ _ (@ps_set _ _ (i:=7) _ _ _ _ sc_made_of.nd rfl (by first | exact Or.inl rfl | exact Or.inr rfl) (@pe_callO _ _ _ _ _ _ _ _ _ _ o_first_part hr rfl (@pa_cons _ _ _ _ _ (pv 3) (@pa_cons _ _ _ _ _ (pv 5) (@pa_cons _ _ _ _ _ (pv 4) (@pa_nil _) (by rfl)) (by rfl)) (by rfl)) (by decide) (by rfl) (by rfl)) (by rfl) (by first | exact .inl rfl | exact .inr rfl | assumption)) (@pss_cons _ _ _ _ _ (@ps_expr _ _ _ _ (@pe_bm _ _ _ _ _ _ _ _ _ _ _ _ PySem.F.plainAttrs_list PySem.F.slot_list_append PySem.F.type_list_append mt_append (pv 6) (@pa_cons _ _ _ _ _ (@pe_ix _ _ _ _ _ _ _ ix_LT (pv 2) (pv 7) (fun _ _ => rfl)) (@pa_nil _) (by rfl)) (by rfl) (by rfl) (by rfl) (by rfl) (by rfl)) (by rfl)) (@pss_one _ _ _ (@ps_aug _ _ (i:=4) _ _ _ _ _ _ sc_made_of.nd rfl (by first | exact Or.inl rfl | exact Or.inr rfl) (@pe_ix _ _ _ _ _ _ _ ix_LT (pv 3) (pv 7) (fun _ _ => rfl)) ip_sub (by first | exact .inl rfl | exact .inr rfl))))))) (@pss_one _ _ _ (@ps_ret _ _ _ _ (pv 6)))))))))),?_⟩
    walk_at "go"
    refine r_rev ?_
    walk_at "go"
    refine ⟨l,ms,u,rfl,hu,hl,hm,by omega,hT,fun p1 H1 ns hp1 kp1 hT1 pn sn hq1 => ?_⟩
    obtain ⟨vs,hv,pv⟩:=hq1
    refine ⟨p1,vs,rfl,hv,fun p2 hp2 => ?_⟩
    have hlen:ns.length = ms.length:=pn.length_eq
    have k2:Kp tT H (L2.upd H1 p2 (.lst vs.reverse)):=kp1.trans (Same.new hp2).kp
    have s2:=Same.new (o:=.lst vs.reverse) hp2
    have t2:=LTab.same hT1 s2
    have h2:=upd_same (H:=H1) (a:=p2) (o:=.lst vs.reverse)
    generalize L2.upd H1 p2 (.lst vs.reverse) = H2 at k2 s2 t2 h2 ⊢
    have hq2:LQ FxQ H2 p2 ((ns.reverse).map (tmF u)):=⟨_,h2,by
      rw [List.map_reverse]
      exact pd_rev (Pd.imp pv fun v f x => FxQ.same x s2)⟩
    have ht2:FxQ H2 (.ref tq) (tmF u n):=FxQ.tk ht k2 hT
    walk_at "go"
    refine r_lstK fun p3 hp3 => ?_
    have s3:=Same.new (o:=.lst [V.ref tq]) hp3
    have h3:=upd_same (H:=H2) (a:=p3) (o:=.lst [V.ref tq])
    generalize L2.upd H2 p3 (.lst [V.ref tq]) = H3 at s3 h3 ⊢
    have hvl:vs.length = ns.length:=by have:=Paired.length pv; rwa [List.length_map] at this
    walk_at "go"
    refine a_lst (s3 _ _ h2) h3 (by rw [List.length_reverse]; simp; omega) fun p4 hp4 => ?_
    have s4:=s3.trans (Same.new (o:=.lst (vs.reverse ++ [V.ref tq])) hp4)
    have h4:=upd_same (H:=H3) (a:=p4) (o:=.lst (vs.reverse ++ [V.ref tq]))
    generalize L2.upd H3 p4 (.lst (vs.reverse ++ [V.ref tq])) = H4 at s4 h4 ⊢
    have memr:∀ m,m ∈ ns.reverse ↔ m ∈ ms:=fun m => by rw [List.mem_reverse]; exact pn.mem_iff
    have hq4:LQ FxQ H4 p4 ((ns.reverse ++ [n]).map (tmF u)):=⟨_,h4,by
      obtain ⟨vs',e1,e2⟩:=hq2
      rw [h2] at e1
      cases e1
      rw [List.map_append]
      exact Pd.snoc (Pd.imp e2 fun v f x => FxQ.same x s4) (FxQ.same ht2 s4)⟩
    have hex:∃ m ∈ ns.reverse ++ [n],0 < m:=by
      obtain ⟨m,hm'⟩:=List.exists_mem_of_ne_nil _ h1
      exact ⟨m,List.mem_append_left _ ((memr m).mpr hm'),hp m hm'⟩
    walk_at "go"
    refine ⟨p4,ns.reverse ++ [n],u,rfl,hu,hq4,fun m hm' => ?_,by rw [List.length_append,List.length_reverse]; simp; omega,hex,fun p5 H5 hp5 s5 h5 => ?_⟩
    . rcases List.mem_append.mp hm' with h | h
      . exact hm m ((memr m).mp h)
      . rw [List.mem_singleton.mp h]; omega
    have hg0:0 < gcdL (ns.reverse ++ [n]):=let ⟨m,a,b⟩:=hex; gcdL_pos a b
    have hgd:∀ m ∈ ns.reverse ++ [n],gcdL (ns.reverse ++ [n]) ∣ m:=fun m h => gcdL_dvd h
    generalize gcdL (ns.reverse ++ [n]) = g at h5 hg0 hgd
    rw [List.map_append,List.map_append,List.map_append] at h5
    have hgS:∀ m ∈ ns.reverse,g ∣ m:=fun m h => hgd m (List.mem_append_left _ h)
    have hgn:n / g * g = n:=Nat.div_mul_cancel (hgd n (List.mem_append_right _ (by simp)))
    have hln:n / g <= n:=Nat.div_le_self _ _
    obtain ⟨S,hS⟩:∃ S,S = ns.reverse.map (· / g):=⟨_,rfl⟩
    rw [← hS] at h5
    have hSl:S.length = ms.length:=by rw [hS,List.length_map,List.length_reverse,hlen]
    have hSp:∀ s ∈ S,0 < s:=fun s hs => by
      rw [hS] at hs
      obtain ⟨m,hm',rfl⟩:=List.mem_map.mp hs
      exact Nat.div_pos (Nat.le_of_dvd (hp m ((memr m).mp hm')) (hgS m hm')) hg0
    have hSd:S.Pairwise (· ≥ ·):=by
      rw [hS,List.pairwise_map]
      refine (List.pairwise_reverse.mpr sn).imp fun {a b} hab => Nat.div_le_div_right hab
    have b5:Kp tT H H5:=(k2.trans s4.kp).trans s5.kp
    have t5:LT H5:=LTab.same (LTab.same t2 s4) s5
    have f5:∀ {a:Addr},H5 a = none -> H a = none:=fun h => kTf b5 t5 h
    have isBm:∀ o,isB S (n / g) o -> isB ms n o:=fun o h => by
      rw [hS] at h
      have:=(isB.scale hg0 hgS).mp h
      rw [hgn] at this
      exact this.perm memr
    walk_at "go"
    refine r_bm0L h5 ?_
    refine ⟨p5,_,V.int ((n / g:Nat):Int),rfl,rfl,h5,by simp,?_⟩
    rw [show (((S.map Int.ofNat).map V.int) ++ (([n].map (· / g)).map Int.ofNat).map V.int).dropLast = (S.map Int.ofNat).map V.int by simp]
    have k6:Kp p5 H5 (L2.upd H5 p5 (.lst ((S.map Int.ofNat).map V.int))):=Kp.upd
    have h6:=upd_same (H:=H5) (a:=p5) (o:=.lst ((S.map Int.ofNat).map V.int))
    generalize L2.upd H5 p5 (.lst ((S.map Int.ofNat).map V.int)) = H6 at k6 h6 ⊢
    have hp5H:H p5 = none:=kTf (k2.trans s4.kp) (LTab.same t2 s4) hp5
    have b6:Kp tT H H6:=fun b o nb e => k6 _ _ (ne_of_none e hp5H) (b5 _ _ nb e)
    have t6:LT H6:=by
      have e:=LTab.same t2 s4
      have hk:∀ b o,H4 b = some o -> H6 b = some o:=fun b o h => k6 _ _ (ne_of_none h hp5) (s5 _ _ h)
      exact LTab.same e hk
    have s6:Same H2 H6:=fun b o h => k6 _ _ (ne_of_none (s4 _ _ h) hp5) (s5 _ _ (s4 _ _ h))
    walk_at "go"
    refine ⟨p5,S,n / g,rfl,h6,hSp,by omega,by omega,fun p7 H7 F hp7 s7 h7 hF => ?_⟩
    have b7:Kp tT H H7:=b6.trans s7.kp
    have t7:LT H7:=LTab.same t6 s7
    have s27:=s6.trans s7
    obtain ⟨o,ho⟩:∃ o,F[n / g]? = some o:=⟨_,List.getElem?_eq_getElem (by rw [hF.1]; omega)⟩
    have hBo:=hF.2 _ _ ho
    walk_at "go"
    refine r_ixl h7 (v:=oV o) (atI_nat (by rw [List.getElem?_map,ho]; rfl)) ?_
    cases o with
    | none =>
      refine r_isNn ?_
      walk_at "go"
      exact ⟨by rw [sizeLine_eq]; decide,q1 (isBm none hBo) H7 b7 t7⟩
    | some k0 =>
      refine r_isNi ?_
      walk_at "go"
      refine r_lstK fun p8 hp8 => ?_
      have hp8H:H p8 = none:=kTf b7 t7 hp8
      walk_at "go"
      refine r_while (fun σ G => ∃ (lf kk:Nat) (L:List Nat) (o:Option V) (ws:List V),σ = [some (.ref l),some (.ref tq),some (.ref p2),some (.ref p5),some (.int lf),some (.ref p7),some (.ref p8),o] /\ Kp p8 H7 G /\ G p8 = some (.lst ws) /\ Paired (FxQ G) ws ((L.map (· * g)).map (tmF u)) /\ lf <= n / g /\ isB S lf (some kk) /\ L.length + lf <= n / g /\ ∀ M,Grd S lf M -> Grd S (n / g) (L ++ M))
        (fun σ _ => match σ with | [_,_,_,_,some (.int z),_,_,_] => z.toNat | _ => 0) ⟨n / g,k0,[],_,[],rfl,Kp.new hp8,upd_same,.nil,Nat.le_refl _,hBo,by simp,fun M h => h⟩ ?_
      rintro σ G ⟨lf,kk,L,o,ws,rfl,kG,hG,pG,hlf,hB,hLl,hM⟩
      have sG:Same H7 G:=fun b o h => kG _ _ (ne_of_none h hp8) h
      have wl:ws.length = L.length:=by have:=Paired.length pG; simpa using this
      walk_at "go"
      refine i_d (fun c => ?_) (fun c => ?_)
      . have h0:0 < lf:=by omega
        walk_at "go"
        refine wh_T ?_
        obtain ⟨kk,rfl⟩:∃ j,kk = j + 1:=by
          obtain ⟨s,j,_,_,e,_⟩:=hB.1.head h0
          exact ⟨j,e⟩
        have hFk:F[lf]? = some (some (kk + 1)):=by
          obtain ⟨o',ho'⟩:∃ o',F[lf]? = some o':=⟨_,List.getElem?_eq_getElem (by rw [hF.1]; omega)⟩
          rw [ho',(hF.2 _ _ ho').uniq hB]
        walk_at "go"
        refine ⟨p5,S,p7,F,lf,kk,n / g,rfl,sG _ _ (s7 _ _ h6),hSp,by omega,sG _ _ h7,hF,h0,hlf,hFk,fun i s1 G1 sG1 hi hle hb1 hno => ?_⟩
        have hi':i < S.length:=(List.getElem?_eq_some_iff.mp hi).1
        obtain ⟨m1,hm1,em1⟩:∃ m1,ns.reverse[i]? = some m1 /\ m1 / g = s1:=by
          rw [hS,List.getElem?_map] at hi
          obtain ⟨m1,a,b⟩:=Option.map_eq_some_iff.mp hi
          exact ⟨m1,a,b⟩
        have em2:s1 * g = m1:=by rw [← em1]; exact Nat.div_mul_cancel (hgS m1 (List.mem_of_getElem? hm1))
        have sA:Same H2 G1:=(s27.trans sG).trans sG1
        obtain ⟨vs2,e1,e2⟩:=LQ.sm hq2 sA
        rw [sA _ _ h2] at e1
        cases e1
        obtain ⟨v1,hv1,hf1⟩:=Pd.get e2 (i:=i) (b:=tmF u m1) (by rw [List.getElem?_map,hm1]; rfl)
        have hG1:=sG1 _ _ hG
        walk_at "go"
        refine r_ixl (sA _ _ h2) (v:=v1) (atI_nat hv1) ?_
        walk_at "go"
        refine r_app hG1 (by omega) ?_
        have kE:Kp p8 G1 (L2.upd G1 p8 (.lst (ws ++ [v1]))):=Kp.upd
        have hE:=upd_same (H:=G1) (a:=p8) (o:=.lst (ws ++ [v1]))
        generalize L2.upd G1 p8 (.lst (ws ++ [v1])) = G2 at kE hE ⊢
        have hp5':G2 p5 = some (.lst ((S.map Int.ofNat).map V.int)):=kE _ _ (ne_of_none (s7 _ _ h6) hp8) (sG1 _ _ (sG _ _ (s7 _ _ h6)))
        have kT2:∀ {v f},FxQ G1 v f -> FxQ G2 v f:=fun ⟨q,a,b⟩ => ⟨q,a,kE _ _ (ne_of b hG1 (by intro z; cases z)) b⟩
        walk_at "go"
        refine r_aug rfl ?_
        walk_at "go"
        refine r_ixl hp5' (v:=V.int (s1:Int)) (atI_nat (by rw [List.map_map,List.getElem?_map,hi]; rfl)) ?_
        walk_at "go"
        refine r_ipI ?_
        walk_at "go"
        have hs1:=hSp s1 (List.mem_of_getElem? hi)
        have elf:(lf:Int) - (s1:Int) = ((lf - s1:Nat):Int):=by omega
        rw [elf]
        refine ⟨⟨lf - s1,kk,L ++ [s1],_,ws ++ [v1],rfl,fun b o nb h => kE _ _ nb (sG1 _ _ (kG _ _ nb h)),hE,?_,by omega,hb1,by simp; omega,fun M hM' => ?_⟩,by show ((lf - s1:Nat):Int).toNat < (lf:Int).toNat; omega⟩
        . rw [List.map_append,List.map_append]
          refine Pd.snoc (Pd.imp pG fun v f x => kT2 (FxQ.same x sG1)) ?_
          show FxQ G2 v1 (tmF u (s1 * g))
          rw [em2]
          exact kT2 hf1
        . rw [List.append_assoc]
          refine hM _ (.cons (List.mem_of_getElem? hi) hle hs1 hB hb1 (fun s' hs' hl' hb' => ?_) hM')
          obtain ⟨j,hj⟩:=List.getElem?_of_mem hs'
          rcases Nat.lt_or_ge j i with h | h
          . exact absurd hb' (hno j s' h hj hl')
          . rcases Nat.lt_or_ge i j with h2' | h2'
            . have:=List.pairwise_iff_getElem.mp hSd i j hi' (List.getElem?_eq_some_iff.mp hj).1 h2'
              have e3:=(List.getElem?_eq_some_iff.mp hi).2
              have e4:=(List.getElem?_eq_some_iff.mp hj).2
              rw [e3,e4] at this
              exact this
            . have:j = i:=by omega
              subst this
              rw [hi] at hj
              cases hj
              exact Nat.le_refl _
      . have:lf = 0:=by omega
        subst this
        walk_at "go"
        have hfin:=hM [] .nil
        rw [List.append_nil,hS] at hfin
        have h9:=Grd.scale hg0 hgS hfin
        rw [hgn] at h9
        refine q2 (L.map (· * g)) p8 G (h9.perm memr) hp8H (fun b o nb h => kG _ _ (ne_of_none h hp8H) (b7 _ _ nb h)) (LTab.same t7 sG) ⟨ws,hG,pG⟩
theorem ok_cell_at (T:Bl mg) (d:Df K mg "_law_cell_at" s_cell_at ["_law_script","_law_k"]  ) (W:XmS mg xt x1 x3 x4) (R_NoSum:XrS K xt x1 x3 x4 x3 3):Okf P w K mg base (k + 1) "_law_cell_at" ["_law_script","_law_k"] (spCell K):=by
  refine Okf.of d sc_cell_at (fun vs H Q E h => ?_) (fun f cdv A outer s H vs Q E hr h => ?_)
  . obtain ⟨a,ns,k',rfl,_⟩:=h
    rfl
  . obtain ⟨a,ns,k',rfl,hS,h0,q⟩:=h
    refine ⟨_,(@pss_cons _ _ _ _ _ (@ps_if _ _ _ _ _ _ _ _ (@pt_cmpR _ _ _ _ _ _ _ _ op_lt (pv 1) (@pe_callB _ _ _ _ _ _ _ _ _ c_len rfl T.z_len bt_len (@pa_cons _ _ _ _ _ (pv 0) (@pa_nil _) (by rfl)) (by decide) (by decide) (by rfl) (by rfl)) (nomark _)) (@pss_one _ _ _ (@ps_ret _ _ _ _ (@pe_ix _ _ _ _ _ _ _ ix_LT (pv 0) (pv 1) (fun _ _ => rfl)))) (@pss_nil _)) (@pss_one _ _ _ (@ps_ret _ _ _ _ (@pe_int _ _ _ _)))),?_⟩
    walk_at "go"
    refine r_lenL hS ?_
    walk_at "go"
    refine i_d (fun c => ?_) (fun c => ?_)
    . rw [List.length_map] at c
      obtain ⟨z,_,hz⟩:=pick (ns:=ns) h0 c
      walk_at "go"
      refine r_ixs hS hz ?_
      walk_at "go"
      exact q z
    . walk_at "go"
      exact q 0
theorem ok_mixed (T:Bl mg) (d:Df K mg "_law_mixed" s_mixed ["_law_cell","_law_k"]  ) (W:XmS mg xt x1 x3 x4) (R_NoSum:XrS K xt x1 x3 x4 x3 3):Okf P w K mg base (k + 1) "_law_mixed" ["_law_cell","_law_k"] spMixed:=by
  refine Okf.of d sc_mixed (fun vs H Q E h => ?_) (fun f cdv A outer s H vs Q E hr h => ?_)
  . obtain ⟨c,k',rfl,_⟩:=h
    rfl
  . obtain ⟨c,k',rfl,h0,h1,q⟩:=h
    refine ⟨_,(@pss_one _ _ _ (@ps_ret _ _ _ _ (@pe_op _ _ _ _ _ _ _ _ op_mod (@pe_op _ _ _ _ _ _ _ _ op_addA (@pe_op _ _ _ _ _ _ _ _ op_addA (@pe_op _ _ _ _ _ _ _ _ op_mulB (@pe_op _ _ _ _ _ _ _ _ op_mod (@pe_op _ _ _ _ _ _ _ _ op_mulB (pv 0) (@pe_int _ _ _ _)) (@pe_int _ _ _ _)) (@pe_int _ _ _ _)) (@pe_op _ _ _ _ _ _ _ _ op_mulB (@pe_op _ _ _ _ _ _ _ _ op_mulB (@pe_int _ _ _ _) (pv 1)) (pv 1))) (@pe_op _ _ _ _ _ _ _ _ op_mulB (@pe_int _ _ _ _) (pv 1))) (@pe_int _ _ _ _)))),?_⟩
    walk_at "go"
    have h:=Int.emod_nonneg (c * 69621) (show (2147483629:Int) ≠ 0 by decide)
    have h':=Int.emod_lt_of_pos (c * 69621) (show (0:Int) < 2147483629 by decide)
    generalize c * 69621 % 2147483629 = z at *
    walk_at "go"
    exact q _ (Int.emod_nonneg _ (by decide)) (Int.emod_lt_of_pos _ (by decide))
theorem ok_great (T:Bl mg) (d:Df K mg "_law_great" s_great ["_law_cell"]  ) (W:XmS mg xt x1 x3 x4) (R_NoSum:XrS K xt x1 x3 x4 x3 3) (o_mixed:Okf P w K mg base k "_law_mixed" ["_law_cell","_law_k"] spMixed):Okf P w K mg base (k + 1) "_law_great" ["_law_cell"] spGreat:=by
  refine Okf.of d sc_great (fun vs H Q E h => ?_) (fun f cdv A outer s H vs Q E hr h => ?_)
  . obtain ⟨c,rfl,_⟩:=h
    rfl
  . obtain ⟨c,rfl,q⟩:=h
    refine ⟨_,(@pss_cons _ _ _ _ _ (@ps_if _ _ _ _ _ _ _ _ (@PW.pt _ _ _ (@pw_or _ _ _ _ _ _ _ (@pt_cmpR _ _ _ _ _ _ _ _ op_lt (pv 0) (@pe_int _ _ _ _) (nomark _)) (@pw_or1 _ _ _ _ (@pt_cmpR _ _ _ _ _ _ _ _ op_gt (pv 0) (@pe_op _ _ _ _ _ _ _ _ op_pow (@pe_int _ _ _ _) (@pe_int _ _ _ _)) (nomark _))))) (@pss_one _ _ _ (@ps_ret _ _ _ _ (pv 0))) (@pss_nil _)) (@pss_one _ _ _ (@ps_ret _ _ _ _ (@pe_op _ _ _ _ _ _ _ _ op_addA (@pe_callO _ _ _ _ _ _ _ _ _ _ o_mixed hr rfl (@pa_cons _ _ _ _ _ (pv 0) (@pa_cons _ _ _ _ _ (@pe_int _ _ _ _) (@pa_nil _) (by rfl)) (by rfl)) (by decide) (by rfl) (by rfl)) (@pe_op _ _ _ _ _ _ _ _ op_mulB (@pe_int _ _ _ _) (@pe_op _ _ _ _ _ _ _ _ op_addA (@pe_callO _ _ _ _ _ _ _ _ _ _ o_mixed hr rfl (@pa_cons _ _ _ _ _ (pv 0) (@pa_cons _ _ _ _ _ (@pe_int _ _ _ _) (@pa_nil _) (by rfl)) (by rfl)) (by decide) (by rfl) (by rfl)) (@pe_op _ _ _ _ _ _ _ _ op_mulB (@pe_int _ _ _ _) (@pe_callO _ _ _ _ _ _ _ _ _ _ o_mixed hr rfl (@pa_cons _ _ _ _ _ (pv 0) (@pa_cons _ _ _ _ _ (@pe_int _ _ _ _) (@pa_nil _) (by rfl)) (by rfl)) (by decide) (by rfl) (by rfl))))))))),?_⟩
    walk_at "go"
    refine i_d (fun c0 => ?_) (fun c0 => ?_)
    . walk_at "go"
      exact q _
    . walk_at "go"
      refine i_d (fun c1 => ?_) (fun c1 => ?_)
      . walk_at "go"
        exact q _
      . walk_at "go"
        refine ⟨c,41,rfl,by decide,by decide,fun r1 a1 b1 => ?_⟩
        walk_at "go"
        refine ⟨c,43,rfl,by decide,by decide,fun r2 a2 b2 => ?_⟩
        walk_at "go"
        refine ⟨c,47,rfl,by decide,by decide,fun r3 a3 b3 => ?_⟩
        walk_at "go"
        exact q _
set_option maxHeartbeats 0 in
theorem ok_numbers (T:Bl mg) (d:Df K mg "_law_numbers" s_numbers ["_law_script","_law_first","_law_many","_law_size"]  ) (W:XmS mg xt x1 x3 x4) (R_NoSum:XrS K xt x1 x3 x4 x3 3) (o_cell_at:Okf P w K mg base k "_law_cell_at" ["_law_script","_law_k"] (spCell K)) (o_mixed:Okf P w K mg base k "_law_mixed" ["_law_cell","_law_k"] spMixed):Okf P w K mg base (k + 1) "_law_numbers" ["_law_script","_law_first","_law_many","_law_size"] (spNumbers K):=by
  refine Okf.of d sc_numbers (fun vs H Q E h => ?_) (fun f cdv A outer s H vs Q E hr h => ?_)
  . obtain ⟨a,ns,f0,m,z,rfl,_⟩:=h
    rfl
  . obtain ⟨a,ns,f0,m,z,rfl,hS,hf0,hf1,hm0,hm,z0,z1,q⟩:=h
    refine ⟨_,(@pss_cons _ _ _ _ _ (@ps_set _ _ (i:=4) _ _ _ _ sc_numbers.nd rfl (by first | exact Or.inl rfl | exact Or.inr rfl) (@pe_lst _ _ _ _ (@pa_nil _)) (by rfl) (by first | exact .inl rfl | exact .inr rfl | assumption)) (@pss_cons _ _ _ _ _ (@ps_set _ _ (i:=5) _ _ _ _ sc_numbers.nd rfl (by first | exact Or.inl rfl | exact Or.inr rfl) (@pe_callO _ _ _ _ _ _ _ _ _ _ o_cell_at hr rfl (@pa_cons _ _ _ _ _ (pv 0) (@pa_cons _ _ _ _ _ (pv 1) (@pa_nil _) (by rfl)) (by rfl)) (by decide) (by rfl) (by rfl)) (by rfl) (by first | exact .inl rfl | exact .inr rfl | assumption)) (@pss_cons _ _ _ _ _ (@ps_while _ _ _ _ _ _ PassesOwn.never (@PW.pt _ _ _ (@pw_and _ _ _ _ _ _ _ (@pt_cmpR _ _ _ _ _ _ _ _ (op_eqA hr.units) (@pe_op _ _ _ _ _ _ _ _ op_mod (@pe_callO _ _ _ _ _ _ _ _ _ _ o_cell_at hr rfl (@pa_cons _ _ _ _ _ (pv 0) (@pa_cons _ _ _ _ _ (@pe_int _ _ _ _) (@pa_nil _) (by rfl)) (by rfl)) (by decide) (by rfl) (by rfl)) (@pe_int _ _ _ _)) (@pe_int _ _ _ _) (nomark _)) (@pw_and _ _ _ _ _ _ _ (@pt_cmpR _ _ _ _ _ _ _ _ (op_neA hr.units) (pv 5) (@pe_int _ _ _ _) (nomark _)) (@pw_and1 _ _ _ _ (@pt_cmpR _ _ _ _ _ _ _ _ op_lt (@pe_callB _ _ _ _ _ _ _ _ _ c_len rfl T.z_len bt_len (@pa_cons _ _ _ _ _ (pv 4) (@pa_nil _) (by rfl)) (by decide) (by decide) (by rfl) (by rfl)) (pv 2) (nomark _)))))) (@pss_cons _ _ _ _ _ (@ps_expr _ _ _ _ (@pe_bm _ _ _ _ _ _ _ _ _ _ _ _ PySem.F.plainAttrs_list PySem.F.slot_list_append PySem.F.type_list_append mt_append (pv 4) (@pa_cons _ _ _ _ _ (@pe_op _ _ _ _ _ _ _ _ op_mod (pv 5) (pv 3)) (@pa_nil _) (by rfl)) (by rfl) (by rfl) (by rfl) (by rfl) (by rfl)) (by rfl)) (@pss_one _ _ _ (@ps_set _ _ (i:=5) _ _ _ _ sc_numbers.nd rfl (by first | exact Or.inl rfl | exact Or.inr rfl) (@pe_op _ _ _ _ _ _ _ _ op_fdivB (pv 5) (pv 3)) (by rfl) (by first | exact .inl rfl | exact .inr rfl | assumption))))) (@pss_cons _ _ _ _ _ (@ps_for _ _ _ _ _ _ _ _ PassesOwn.never rfl (@pi_range2 _ _ _ _ _ _ _ rfl T.z_range (@pa_cons _ _ _ _ _ (@pe_callB _ _ _ _ _ _ _ _ _ c_len rfl T.z_len bt_len (@pa_cons _ _ _ _ _ (pv 4) (@pa_nil _) (by rfl)) (by decide) (by decide) (by rfl) (by rfl)) (@pa_cons _ _ _ _ _ (pv 2) (@pa_nil _) (by rfl)) (by rfl)) (by rfl) (by rfl)) (@pg_name _ _ (i:=6) _ sc_numbers.nd rfl (by first | exact Or.inl rfl | exact Or.inr rfl) (by first | exact .inl rfl | exact .inr rfl | assumption)) (@pss_one _ _ _ (@ps_expr _ _ _ _ (@pe_bm _ _ _ _ _ _ _ _ _ _ _ _ PySem.F.plainAttrs_list PySem.F.slot_list_append PySem.F.type_list_append mt_append (pv 4) (@pa_cons _ _ _ _ _ (@pe_op _ _ _ _ _ _ _ _ op_mod (@pe_callO _ _ _ _ _ _ _ _ _ _ o_mixed hr rfl (@pa_cons _ _ _ _ _ (@pe_callO _ _ _ _ _ _ _ _ _ _ o_cell_at hr rfl (@pa_cons _ _ _ _ _ (pv 0) (@pa_cons _ _ _ _ _ (@pe_op _ _ _ _ _ _ _ _ op_addA (pv 1) (pv 6)) (@pa_nil _) (by rfl)) (by rfl)) (by decide) (by rfl) (by rfl)) (@pa_cons _ _ _ _ _ (pv 6) (@pa_nil _) (by rfl)) (by rfl)) (by decide) (by rfl) (by rfl)) (pv 3)) (@pa_nil _) (by rfl)) (by rfl) (by rfl) (by rfl) (by rfl) (by rfl)) (by rfl))) (by intro _; rfl)) (@pss_one _ _ _ (@ps_ret _ _ _ _ (pv 4))))))),?_⟩
    obtain ⟨m,rfl⟩:∃ m':Nat,m = m':=⟨m.toNat,by omega⟩
    rw [Int.toNat_natCast] at q
    walk_at "go"
    refine r_lstK fun p hp => ?_
    have hS1:SqL K (L2.upd H p (.lst [])) a (ns.map V.int):=(Same.new hp).seq hS
    walk_at "go"
    refine ⟨a,ns,f0,rfl,hS1,hf0,fun c0 => ?_⟩
    walk_at "go"
    refine r_cut (s:=tWhile _ _) (fun σ H' => ∃ (c':Int) (o:Option V) (xs:List Int),σ = [some (.ref a),some (.int f0),some (.int m),some (.int z),some (.ref p),some (.int c'),o] /\ Kp p H H' /\ H' p = some (.lst (xs.map V.int)) /\ xs.length <= m /\ ∀ x ∈ xs,0 <= x /\ x < z) ?_ (fun NX hNX => ?_)
    . rintro σ H1 ⟨c',o,xs,rfl,kp,h1,hl,hx⟩
      walk_at "go"
      refine ⟨_,_,rfl,⟨by omega,by rw [List.length_map]; omega,by omega,by omega⟩,?_⟩
      rw [List.length_map]
      have hN:((m:Int) - (xs.length:Int)).toNat = m - xs.length:=by omega
      rw [hN]
      refine r_forR (fun i σ H' => ∃ (c':Int) (o:Option V) (ys:List Int),σ = [some (.ref a),some (.int f0),some (.int m),some (.int z),some (.ref p),some (.int c'),o] /\ Kp p H H' /\ H' p = some (.lst (ys.map V.int)) /\ ys.length = xs.length + i /\ ∀ x ∈ ys,0 <= x /\ x < z) ⟨_,_,xs,rfl,kp,h1,rfl,hx⟩ ?_ ?_
      . rintro i σ H2 hi ⟨c2,o2,ys,rfl,kp2,h2,hl2,hx2⟩
        have s2:Same H H2:=fun b o h => kp2 _ _ (ne_of_none h hp) h
        walk_at "go"
        refine ⟨a,ns,_,rfl,s2.seq hS,by omega,fun r => ?_⟩
        walk_at "go"
        refine ⟨r,_,rfl,by omega,by omega,fun r2 a2 b2 => ?_⟩
        walk_at "go"
        refine r_app h2 (by rw [List.length_map]; omega) ?_
        walk_at "go"
        refine ⟨_,_,ys ++ [r2 % z],rfl,kp2.trans Kp.upd,by rw [upd_same]; simp,by rw [List.length_append,hl2]; rfl,fun x hx' => ?_⟩
        rcases List.mem_append.mp hx' with h | h
        . exact hx2 x h
        . rw [List.mem_singleton.mp h]
          exact ⟨Int.emod_nonneg _ (by omega),Int.emod_lt_of_pos _ z0⟩
      . rintro σ H2 ⟨c2,o2,ys,rfl,kp2,h2,hl2,hx2⟩
        walk_at "go"
        exact q p H2 ys hp (fun b o h => kp2 _ _ (ne_of_none h hp) h) h2 (by omega) hx2
    . refine r_while (fun σ H' => ∃ (c':Int) (o:Option V) (xs:List Int),σ = [some (.ref a),some (.int f0),some (.int m),some (.int z),some (.ref p),some (.int c'),o] /\ Kp p H H' /\ H' p = some (.lst (xs.map V.int)) /\ xs.length <= m /\ ∀ x ∈ xs,0 <= x /\ x < z)
        (fun _ H' => m - (match H' p with | some (.lst xs) => xs.length | _ => 0)) ⟨c0,_,[],rfl,Kp.new hp,upd_same,Nat.zero_le _,fun x hx => by simp at hx⟩ ?_
      . rintro σ H1 ⟨c',o,xs,rfl,kp,h1,hl,hx⟩
        have s1:Same H H1:=fun b o h => kp _ _ (ne_of_none h hp) h
        walk_at "go"
        refine ⟨a,ns,0,rfl,s1.seq hS,Int.le_refl 0,fun r => ?_⟩
        walk_at "go"
        refine i_d (fun c1 => ?_) (fun c1 => ?_)
        . walk_at "go"
          refine i_d (fun c2 => ?_) (fun c2 => ?_)
          . walk_at "go"
            exact hNX _ _ ⟨c',o,xs,rfl,kp,h1,hl,hx⟩
          . walk_at "go"
            rw [List.length_map]
            refine i_d (fun c3 => ?_) (fun c3 => ?_)
            . walk_at "go"
              refine wh_T ?_
              walk_at "go"
              refine r_app h1 (by rw [List.length_map]; omega) ?_
              walk_at "go"
              refine ⟨⟨_,o,xs ++ [c' % z],rfl,kp.trans Kp.upd,by rw [upd_same]; simp,by rw [List.length_append]; simp; omega,fun x hx' => ?_⟩,?_⟩
              . rcases List.mem_append.mp hx' with h | h
                . exact hx x h
                . rw [List.mem_singleton.mp h]
                  exact ⟨Int.emod_nonneg _ (by omega),Int.emod_lt_of_pos _ z0⟩
              . show m - (match L2.upd H1 p _ p with | some (.lst xs) => xs.length | _ => 0) < m - (match H1 p with | some (.lst xs) => xs.length | _ => 0)
                rw [upd_same,h1]
                show m - (xs.map V.int ++ [V.int (c' % z)]).length < m - (xs.map V.int).length
                rw [List.length_append,List.length_map]
                simp
                omega
            . walk_at "go"
              exact hNX _ _ ⟨c',o,xs,rfl,kp,h1,hl,hx⟩
        . walk_at "go"
          exact hNX _ _ ⟨c',o,xs,rfl,kp,h1,hl,hx⟩
theorem ok_lowest (T:Bl mg) (d:Df K mg "_law_lowest" s_lowest ["_law_top","_law_bottom"]  ) (W:XmS mg xt x1 x3 x4) (R_NoSum:XrS K xt x1 x3 x4 x3 3):Okf P w K mg base (k + 1) "_law_lowest" ["_law_top","_law_bottom"] spLowest:=by
  refine Okf.of d sc_lowest (fun vs H Q E h => ?_) (fun f cdv A outer s H vs Q E hr h => ?_)
  . obtain ⟨t,b,rfl,_⟩:=h
    rfl
  . obtain ⟨t,b,rfl,hb,hs1,hs2,q⟩:=h
    refine ⟨_,(@pss_cons _ _ _ _ _ (@ps_set _ _ (i:=2) _ _ _ _ sc_lowest.nd rfl (by first | exact Or.inl rfl | exact Or.inr rfl) (@pe_callB _ _ _ _ _ _ _ _ _ c_abs rfl T.z_abs bt_abs (@pa_cons _ _ _ _ _ (pv 0) (@pa_nil _) (by rfl)) (by decide) (by decide) (by rfl) (by rfl)) (by rfl) (by first | exact .inl rfl | exact .inr rfl | assumption)) (@pss_cons _ _ _ _ _ (@ps_set _ _ (i:=3) _ _ _ _ sc_lowest.nd rfl (by first | exact Or.inl rfl | exact Or.inr rfl) (pv 1) (by rfl) (by first | exact .inl rfl | exact .inr rfl | assumption)) (@pss_cons _ _ _ _ _ (@ps_while _ _ _ _ _ _ PassesOwn.never (@pt_cmpR _ _ _ _ _ _ _ _ op_gt (pv 3) (@pe_int _ _ _ _) (nomark _)) (@pss_one _ _ _ (@ps_par _ _ (i:=2) (j:=3) _ _ _ _ _ _ _ _ _ _ _ rfl sc_lowest.nd rfl rfl (by decide) rfl rfl (@pa_cons _ _ _ _ _ (pv 3) (@pa_cons _ _ _ _ _ (@pe_op _ _ _ _ _ _ _ _ op_mod (pv 2) (pv 3)) (@pa_nil _) (by rfl)) (by rfl)) rfl (by rfl)))) (@pss_one _ _ _ (@ps_ret _ _ _ _ (@pe_tup _ _ _ _ _ (@pa_cons _ _ _ _ _ (@pe_op _ _ _ _ _ _ _ _ op_fdivB (pv 0) (pv 2)) (@pa_cons _ _ _ _ _ (@pe_op _ _ _ _ _ _ _ _ op_fdivB (pv 1) (pv 2)) (@pa_nil _) (by rfl)) (by rfl)))))))),?_⟩
    walk_at "go"
    refine while_by (fun σ H' => ∃ one other:Int,σ = [some (.int t),some (.int b),some (.int one),some (.int other)] /\ H' = H /\ 0 <= one /\ 0 <= other /\ Int.gcd one other = Int.gcd t b)
      (fun σ _ => match σ with | [_,_,_,some (.int z)] => z.toNat | _ => 0) ⟨_,_,rfl,rfl,by split <;> omega,by omega,?_⟩ ?_ ?_
    . have e:(if t < 0 then -t else t) = (t.natAbs:Int):=by split <;> omega
      rw [e]
      simp [Int.gcd]
    . rintro σ H' ⟨one,other,rfl,rfl,h1,h2,hg⟩
      walk_at "go"
      refine i_d (fun c => ?_) (fun c => ?_)
      . walk_at "go"
        refine ⟨⟨_,_,rfl,rfl,h2,Int.emod_nonneg _ (by omega),by rw [gcd_step c]; exact hg⟩,?_⟩
        have:=Int.emod_lt_of_pos one c
        show (one % other).toNat < other.toNat
        omega
      . have e:other = 0:=by omega
        subst e
        have hb0:b ≠ 0:=by omega
        have e1:one = (Int.gcd t b:Int):=by rw [← hg,Int.gcd_zero_right]; omega
        have hgb:(Int.gcd t b:Int).natAbs <= b.natAbs:=by
          have:=Nat.le_of_dvd (by omega) (Int.gcd_dvd_natAbs_right t b)
          omega
        have es:(Int.gcd t b:Int) = sg t b:=by unfold sg; rw [if_neg (by omega)]
        subst e1
        walk_at "go"
        rw [es]
        have hc:∀ z,CDivB z (sg t b):=fun _ => ⟨sg_ne hb0,Sm.le (by rw [sg_natAbs]; omega) hs2⟩
        refine r_fdiv (hc _) ?_
        walk_at "go"
        refine r_fdiv (hc _) ?_
        walk_at "go"
        refine r_tupK fun p hp => ?_
        walk_at "go"
        exact q p hp
    . intro σ H Q Q' hQ h
      obtain ⟨v,e1,i,j,e2,e3,b',e4,q'⟩:=h
      exact ⟨v,e1,i,j,e2,e3,b',e4,hQ _ _ q'⟩
theorem ok_unit (T:Bl mg) (d:Df K mg "_law_unit" s_unit ["_law_number"]  ) (W:XmS mg xt x1 x3 x4) (R_NoSum:XrS K xt x1 x3 x4 x3 3):Okf P w K mg base (k + 1) "_law_unit" ["_law_number"] spUnit:=by
  refine Okf.of d sc_unit (fun vs H Q E h => ?_) (fun f cdv A outer s H vs Q E hr h => ?_)
  . obtain ⟨n,rfl,_⟩:=h
    rfl
  . obtain ⟨n,rfl,q⟩:=h
    refine ⟨_,(@pss_one _ _ _ (@ps_ret _ _ _ _ (@pe_ix _ _ _ _ _ _ _ ix_LT (@pe_lst _ _ _ _ (@pa_cons _ _ _ _ _ (@pe_tup _ _ _ _ _ (@pa_cons _ _ _ _ _ (@pe_int _ _ _ _) (@pa_cons _ _ _ _ _ (@pe_int _ _ _ _) (@pa_nil _) (by rfl)) (by rfl))) (@pa_cons _ _ _ _ _ (@pe_tup _ _ _ _ _ (@pa_cons _ _ _ _ _ (@pe_int _ _ _ _) (@pa_cons _ _ _ _ _ (@pe_int _ _ _ _) (@pa_nil _) (by rfl)) (by rfl))) (@pa_cons _ _ _ _ _ (@pe_tup _ _ _ _ _ (@pa_cons _ _ _ _ _ (@pe_int _ _ _ _) (@pa_cons _ _ _ _ _ (@pe_int _ _ _ _) (@pa_nil _) (by rfl)) (by rfl))) (@pa_cons _ _ _ _ _ (@pe_tup _ _ _ _ _ (@pa_cons _ _ _ _ _ (@pe_int _ _ _ _) (@pa_cons _ _ _ _ _ (@pe_int _ _ _ _) (@pa_nil _) (by rfl)) (by rfl))) (@pa_cons _ _ _ _ _ (@pe_tup _ _ _ _ _ (@pa_cons _ _ _ _ _ (@pe_int _ _ _ _) (@pa_cons _ _ _ _ _ (@pe_int _ _ _ _) (@pa_nil _) (by rfl)) (by rfl))) (@pa_cons _ _ _ _ _ (@pe_tup _ _ _ _ _ (@pa_cons _ _ _ _ _ (@pe_int _ _ _ _) (@pa_cons _ _ _ _ _ (@pe_op _ _ _ _ _ _ _ _ op_addA (@pe_op _ _ _ _ _ _ _ _ op_pow (@pe_int _ _ _ _) (@pe_int _ _ _ _)) (@pe_int _ _ _ _)) (@pa_nil _) (by rfl)) (by rfl))) (@pa_nil _) (by rfl)) (by rfl)) (by rfl)) (by rfl)) (by rfl)) (by rfl))) (@pe_op _ _ _ _ _ _ _ _ op_mod (pv 0) (@pe_int _ _ _ _)) (fun _ _ => rfl)))),?_⟩
    walk_at "go"
    refine r_tupK fun p0 hp0 => ?_
    have s0:=Same.new (o:=.tup [.int 1,.int 1]) hp0
    have g0:=upd_same (H:=H) (a:=p0) (o:=.tup [.int 1,.int 1])
    generalize L2.upd H p0 (.tup [.int 1,.int 1]) = H0 at s0 g0 ⊢
    walk_at "go"
    refine r_tupK fun p1 hp1 => ?_
    have s1:=Same.new (o:=.tup [.int 1,.int 2]) hp1
    have g1:=upd_same (H:=H0) (a:=p1) (o:=.tup [.int 1,.int 2])
    generalize L2.upd H0 p1 (.tup [.int 1,.int 2]) = H1 at s1 g1 ⊢
    walk_at "go"
    refine r_tupK fun p2 hp2 => ?_
    have s2:=Same.new (o:=.tup [.int 2,.int 3]) hp2
    have g2:=upd_same (H:=H1) (a:=p2) (o:=.tup [.int 2,.int 3])
    generalize L2.upd H1 p2 (.tup [.int 2,.int 3]) = H2 at s2 g2 ⊢
    walk_at "go"
    refine r_tupK fun p3 hp3 => ?_
    have s3:=Same.new (o:=.tup [.int 1,.int 12]) hp3
    have g3:=upd_same (H:=H2) (a:=p3) (o:=.tup [.int 1,.int 12])
    generalize L2.upd H2 p3 (.tup [.int 1,.int 12]) = H3 at s3 g3 ⊢
    walk_at "go"
    refine r_tupK fun p4 hp4 => ?_
    have s4:=Same.new (o:=.tup [.int 5,.int 1]) hp4
    have g4:=upd_same (H:=H3) (a:=p4) (o:=.tup [.int 5,.int 1])
    generalize L2.upd H3 p4 (.tup [.int 5,.int 1]) = H4 at s4 g4 ⊢
    walk_at "go"
    refine r_pow12 ?_
    walk_at "go"
    refine r_tupK fun p5 hp5 => ?_
    have s5:=Same.new (o:=.tup [.int 7,.int (1000000000000 + 1)]) hp5
    have g5:=upd_same (H:=H4) (a:=p5) (o:=.tup [.int 7,.int (1000000000000 + 1)])
    generalize L2.upd H4 p5 (.tup [.int 7,.int (1000000000000 + 1)]) = H5 at s5 g5 ⊢
    walk_at "go"
    refine r_lstK fun p9 hp9 => ?_
    have s9:=Same.new (o:=.lst [V.ref p0,V.ref p1,V.ref p2,V.ref p3,V.ref p4,V.ref p5]) hp9
    have g9:=upd_same (H:=H5) (a:=p9) (o:=.lst [V.ref p0,V.ref p1,V.ref p2,V.ref p3,V.ref p4,V.ref p5])
    generalize L2.upd H5 p9 (.lst [V.ref p0,V.ref p1,V.ref p2,V.ref p3,V.ref p4,V.ref p5]) = H9 at s9 g9 ⊢
    have r5:=s9
    have r4:=s5.trans r5
    have r3:=s4.trans r4
    have r2:=s3.trans r3
    have r1:=s2.trans r2
    have r0:=s1.trans r1
    have rH:=s0.trans r0
    have a0:=Int.emod_nonneg n (show (6:Int) ≠ 0 by decide)
    have a1:=Int.emod_lt_of_pos n (show (0:Int) < 6 by decide)
    walk_at "go"
    rcases (show n % 6 = 0 ∨ n % 6 = 1 ∨ n % 6 = 2 ∨ n % 6 = 3 ∨ n % 6 = 4 ∨ n % 6 = 5 by omega) with e | e | e | e | e | e
    . rw [e]
      refine r_ixl g9 (v:=V.ref p0) rfl ?_
      walk_at "go"
      exact q p0 (1,1) H9 ⟨by decide,by decide,by decide,by decide⟩ (hp0) rH (r0 _ _ g0)
    . rw [e]
      refine r_ixl g9 (v:=V.ref p1) rfl ?_
      walk_at "go"
      exact q p1 (1,2) H9 ⟨by decide,by decide,by decide,by decide⟩ ((s0.free hp1)) rH (r1 _ _ g1)
    . rw [e]
      refine r_ixl g9 (v:=V.ref p2) rfl ?_
      walk_at "go"
      exact q p2 (2,3) H9 ⟨by decide,by decide,by decide,by decide⟩ ((s0.free (s1.free hp2))) rH (r2 _ _ g2)
    . rw [e]
      refine r_ixl g9 (v:=V.ref p3) rfl ?_
      walk_at "go"
      exact q p3 (1,12) H9 ⟨by decide,by decide,by decide,by decide⟩ ((s0.free (s1.free (s2.free hp3)))) rH (r3 _ _ g3)
    . rw [e]
      refine r_ixl g9 (v:=V.ref p4) rfl ?_
      walk_at "go"
      exact q p4 (5,1) H9 ⟨by decide,by decide,by decide,by decide⟩ ((s0.free (s1.free (s2.free (s3.free hp4))))) rH (r4 _ _ g4)
    . rw [e]
      refine r_ixl g9 (v:=V.ref p5) rfl ?_
      walk_at "go"
      exact q p5 (7,1000000000000 + 1) H9 ⟨by decide,by decide,by decide,by decide⟩ ((s0.free (s1.free (s2.free (s3.free (s4.free hp5)))))) rH (r5 _ _ g5)
theorem ok_sizes (T:Bl mg) (d:Df K mg "_law_sizes" s_sizes ["_law_numbers_here"]  ) (W:XmS mg xt x1 x3 x4) (R_NoSum:XrS K xt x1 x3 x4 x3 3):Okf P w K mg base (k + 1) "_law_sizes" ["_law_numbers_here"] (spSizes K):=by
  refine Okf.of d sc_sizes (fun vs H Q E h => ?_) (fun f cdv A outer s H vs Q E hr h => ?_)
  . obtain ⟨p,xs,rfl,_⟩:=h
    rfl
  . obtain ⟨p,xs,rfl,hp,hx,hl,h0,q⟩:=h
    refine ⟨_,(@pss_cons _ _ _ _ _ (@ps_set _ _ (i:=1) _ _ _ _ sc_sizes.nd rfl (by first | exact Or.inl rfl | exact Or.inr rfl) (@pe_lst _ _ _ _ (@pa_nil _)) (by rfl) (by first | exact .inl rfl | exact .inr rfl | assumption)) (@pss_cons _ _ _ _ _ (@ps_for _ _ _ _ _ _ _ _ PassesOwn.never rfl (@pi_list _ _ _ _ (pv 0)) (@pg_name _ _ (i:=2) _ sc_sizes.nd rfl (by first | exact Or.inl rfl | exact Or.inr rfl) (by first | exact .inl rfl | exact .inr rfl | assumption)) (@pss_cons _ _ _ _ _ (@ps_set _ _ (i:=3) _ _ _ _ sc_sizes.nd rfl (by first | exact Or.inl rfl | exact Or.inr rfl) (@pe_op _ _ _ _ _ _ _ _ op_addA (@pe_int _ _ _ _) (@pe_op _ _ _ _ _ _ _ _ op_mod (pv 2) (@pe_ix _ _ _ _ _ _ _ ix_LT (@pe_lst _ _ _ _ (@pa_cons _ _ _ _ _ (@pe_int _ _ _ _) (@pa_cons _ _ _ _ _ (@pe_int _ _ _ _) (@pa_nil _) (by rfl)) (by rfl))) (@pe_op _ _ _ _ _ _ _ _ op_mod (@pe_op _ _ _ _ _ _ _ _ op_fdivB (pv 2) (@pe_int _ _ _ _)) (@pe_int _ _ _ _)) (fun _ _ => rfl)))) (by rfl) (by first | exact .inl rfl | exact .inr rfl | assumption)) (@pss_one _ _ _ (@ps_if _ _ _ _ _ _ _ _ (@pt_cmpR _ _ _ _ _ _ _ _ op_notIn_seq (pv 3) (pv 1) (by with_unfolding_all rfl)) (@pss_one _ _ _ (@ps_expr _ _ _ _ (@pe_bm _ _ _ _ _ _ _ _ _ _ _ _ PySem.F.plainAttrs_list PySem.F.slot_list_append PySem.F.type_list_append mt_append (pv 1) (@pa_cons _ _ _ _ _ (pv 3) (@pa_nil _) (by rfl)) (by rfl) (by rfl) (by rfl) (by rfl) (by rfl)) (by rfl))) (@pss_nil _)))) (by intro _; rfl)) (@pss_one _ _ _ (@ps_ret _ _ _ _ (pv 1))))),?_⟩
    walk_at "go"
    refine r_lstK fun l hl0 => ?_
    walk_at "go"
    have hp1:=Same.new (o:=.lst []) hl0 _ _ hp
    refine r_listK (SqL.of hp1) ?_
    refine r_forL (xs:=xs.map V.int) (fun i σ G => ∃ (S:List Nat) (o1 o2:Option V),σ = [some (.ref p),some (.ref l),o1,o2] /\ Kp l H G /\ G l = some (.lst ((S.map Int.ofNat).map V.int)) /\ (∀ s ∈ S,0 < s /\ s <= 40) /\ S.length <= i /\ (0 < i -> S ≠ [])) ⟨[],_,_,rfl,Kp.new hl0,upd_same,fun s h => by simp at h,Nat.le_refl _,fun h => by omega⟩ ?_ ?_ ?_
    . rintro i σ G hi ⟨S,o1,o2,rfl,kp,_⟩
      exact SqL.of (kp _ _ (ne_of_none hp hl0) hp)
    . rintro i x σ G hx' ⟨S,o1,o2,rfl,kp,hG,hS,hSl,hS0⟩
      rw [List.getElem?_map] at hx'
      obtain ⟨z,hz,rfl⟩:=Option.map_eq_some_iff.mp hx'
      walk_at "go"
      refine r_lstK fun pa hpa => ?_
      have s9:=Same.new (o:=.lst [V.int 12,V.int 40]) hpa
      have g9:=upd_same (H:=G) (a:=pa) (o:=.lst [V.int 12,V.int 40])
      generalize L2.upd G pa (.lst [V.int 12,V.int 40]) = G9 at s9 g9 ⊢
      have a0:=Int.emod_nonneg (z.fdiv 40) (show (2:Int) ≠ 0 by decide)
      have a1:=Int.emod_lt_of_pos (z.fdiv 40) (show (0:Int) < 2 by decide)
      obtain ⟨w,hw,hw2⟩:∃ w:Int,atI [V.int 12,V.int 40] (z.fdiv 40 % 2) = some (V.int w) /\ (w = 12 ∨ w = 40):=by
        rcases (show z.fdiv 40 % 2 = 0 ∨ z.fdiv 40 % 2 = 1 by omega) with e | e
        . exact ⟨12,by rw [e]; rfl,.inl rfl⟩
        . exact ⟨40,by rw [e]; rfl,.inr rfl⟩
      walk_at "go"
      refine r_ixl g9 hw ?_
      have b0:=Int.emod_nonneg z (show w ≠ 0 by omega)
      have b1:=Int.emod_lt_of_pos z (show 0 < w by omega)
      walk_at "go"
      have hG9:=s9 _ _ hG
      have kp9:=kp.trans s9.kp
      refine ⟨l,_,rfl,.inl (SqL.of hG9),rfl,flat_ints _,?_⟩
      obtain ⟨m,hm⟩:∃ m:Nat,1 + z % w = m:=⟨(1 + z % w).toNat,by omega⟩
      rw [hm]
      have hmb:0 < m /\ m <= 40:=by omega
      generalize hbv:(if true = true then !inV (V.int (m:Int)) ((S.map Int.ofNat).map V.int) else inV (V.int (m:Int)) ((S.map Int.ofNat).map V.int)) = bv
      cases bv with
      | false =>
        walk_at "go"
        refine ⟨S,_,_,rfl,kp9,hG9,hS,by omega,fun _ e2 => ?_⟩
        rw [e2,if_pos rfl] at hbv
        cases hbv
      | true =>
        walk_at "go"
        refine r_app hG9 (by rw [List.length_map,List.length_map]; have:=(List.getElem?_eq_some_iff.mp hz).1; omega) ?_
        walk_at "go"
        refine ⟨S ++ [m],_,_,rfl,kp9.trans Kp.upd,by rw [upd_same]; simp,fun x hx9 => ?_,by simp; omega,fun _ => by simp⟩
        rcases List.mem_append.mp hx9 with h | h
        . exact hS x h
        . rw [List.mem_singleton.mp h]; exact hmb
    . rintro σ G ⟨S,o1,o2,rfl,kp,hG,hS,hSl,hS0⟩
      rw [List.length_map] at hSl hS0
      walk_at "go"
      exact q l S G hl0 (fun b o e => kp _ _ (ne_of_none e hl0) e) hG hS (by omega) (hS0 (List.length_pos_iff.mpr h0))
theorem ok_times_of (T:Bl mg) (d:Df K mg "_law_times_of" s_times_of ["_law_unit_here","_law_sizes_here"]  ) (W:XmS mg xt x1 x3 x4) (R_NoSum:XrS K xt x1 x3 x4 x3 3) (o_lowest:Okf P w K mg base k "_law_lowest" ["_law_top","_law_bottom"] spLowest):Okf P w K mg base (k + 1) "_law_times_of" ["_law_unit_here","_law_sizes_here"] spTimes:=by
  refine Okf.of d sc_times_of (fun vs H Q E h => ?_) (fun f cdv A outer s H vs Q E hr h => ?_)
  . obtain ⟨a,u,p,S,rfl,_⟩:=h
    rfl
  . obtain ⟨a,u,p,S,rfl,hu,ha,hp,hS,hl,q⟩:=h
    refine ⟨_,(@pss_one _ _ _ (@ps_ret _ _ _ _ (@pe_comp _ _ _ _ _ _ _ _ _ _ _ _ _ _ (@comp_ck _ _ (sc:=defScope s_times_of) (N:=["_law_unit_here","_law_sizes_here"]) (tn:=["_law_size"]) (names:=["_law_unit_here"]) (is:=[0]) rfl rfl (by decide +kernel) (by decide +kernel) rfl (by decide +kernel) rfl (by decide +kernel) (by decide +kernel) (by decide +kernel)) rfl (@pi_list _ _ _ _ (pv 1)) (fun _ _ _ _ => (@pg_name _ _ (i:=0) _ (show (["_law_size","_law_unit_here"]:List Str).Nodup by decide +kernel) rfl (Or.inl rfl) (Or.inr rfl))) (fun _ _ _ _ => (@pe_callO _ _ _ _ _ _ _ _ _ _ o_lowest hr rfl (@pa_cons _ _ _ _ _ (@pe_op _ _ _ _ _ _ _ _ op_mulB (@pe_ix _ _ _ _ _ _ _ ix_LTc (pv 1) (@pe_int _ _ _ _) (fun _ _ => rfl)) (pv 0)) (@pa_cons _ _ _ _ _ (@pe_ix _ _ _ _ _ _ _ ix_LTc (pv 1) (@pe_int _ _ _ _) (fun _ _ => rfl)) (@pa_nil _) (by rfl)) (by rfl)) (by decide) (by rfl) (by rfl))) (fun _ _ _ _ => (@pts_none _)) (by intro _; rfl)))),?_⟩
    walk_at "go"
    refine r_listK (SqL.of hp) ?_
    refine r_compL (xs:=(S.map Int.ofNat).map V.int) (by rw [List.length_map,List.length_map]; omega) (fun acc i ys G => Kp acc H G /\ Paired (FxQ G) ys ((S.take i).map (tmF u))) (fun acc h0 => ⟨Kp.new h0,.nil⟩) ?_ ?_ ?_
    . rintro acc i ys G h0 _ ⟨kp,_⟩
      exact SqL.of (kp _ _ (ne_of_none hp h0) hp)
    . rintro acc i ys G x h0 hx hly ha' ⟨kp,py⟩
      rw [List.map_map,List.getElem?_map] at hx
      obtain ⟨s',hs,e⟩:=Option.map_eq_some_iff.mp hx
      obtain rfl:x = V.int (s':Int):=e.symm
      have hs':=hS s' (List.mem_of_getElem? hs)
      have h1:=hu.s1
      have h2:=hu.s2
      have h3:=hu.p1
      have h4:=hu.p2
      have haG:G a = _:=kp _ _ (ne_of_none ha h0) ha
      have hb:u.1 * s' <= 2 ^ 60 * 100000:=Int.mul_le_mul (Int.le_of_lt h1) (by omega) (by omega) (by decide)
      have hb0:0 <= u.1 * s':=Int.mul_nonneg (by omega) (by omega)
      walk_at "go"
      refine ⟨_,_,rfl,h4,Sm.mono (n:=8000) (m:=100) (Sm.of (by omega) (by show u.1 * s' < ((2 ^ 100:Nat):Int); omega)) (by decide),Sm.mono (n:=8000) (m:=100) (Sm.of (by omega) (by show u.2 < ((2 ^ 100:Nat):Int); omega)) (by decide),fun tq htq => ?_⟩
      walk_at "go"
      have s2:=Same.new (o:=.tup [.int (lowT (u.1 * s') u.2),.int (lowB (u.1 * s') u.2)]) htq
      have h5:=upd_same (H:=G) (a:=tq) (o:=.tup [.int (lowT (u.1 * s') u.2),.int (lowB (u.1 * s') u.2)])
      generalize L2.upd G tq (.tup [.int (lowT (u.1 * s') u.2),.int (lowB (u.1 * s') u.2)]) = G2 at s2 h5 ⊢
      have ha2:=s2 _ _ ha'
      refine c_next (by rw [List.length_map,List.length_map]; exact (List.getElem?_eq_some_iff.mp hs).1) hly ha2 ⟨(kp.trans s2.kp).trans Kp.upd,?_⟩
      rw [List.take_add_one,hs,List.map_append]
      have kT2:∀ {v f},FxQ G2 v f -> FxQ (L2.upd G2 acc (.lst (ys ++ [V.ref tq]))) v f:=fun ⟨q,a,b⟩ => ⟨q,a,by rw [upd_ne (ne_of b ha2 (by intro z; cases z))]; exact b⟩
      exact Pd.snoc (Pd.imp py fun v f x => kT2 (FxQ.same x s2)) (kT2 ⟨tq,rfl,h5⟩)
    . rintro acc ys G h0 ha' hly ⟨kp,py⟩
      rw [List.take_of_length_le (by rw [List.length_map,List.length_map]; exact Nat.le_refl _)] at py
      walk_at "go"
      exact q acc G h0 (fun b o e => kp _ _ (ne_of_none e h0) e) ⟨ys,ha',py⟩
set_option maxHeartbeats 0 in
theorem ok_best (T:Bl mg) (d:Df K mg "_law_best" s_best ["_law_sizes_here","_law_whole"]  ) (W:XmS mg xt x1 x3 x4) (R_NoSum:XrS K xt x1 x3 x4 x3 3):Okf P w K mg base (k + 1) "_law_best" ["_law_sizes_here","_law_whole"] spBest:=by
  refine Okf.of d sc_best (fun vs H Q E h => ?_) (fun f cdv A outer s H vs Q E hr h => ?_)
  . obtain ⟨p,S,n,rfl,_⟩:=h
    rfl
  . obtain ⟨p,S,n,rfl,hp,hS,hl,hn,q⟩:=h
    refine ⟨_,(@pss_cons _ _ _ _ _ (@ps_set _ _ (i:=2) _ _ _ _ sc_best.nd rfl (by first | exact Or.inl rfl | exact Or.inr rfl) (@pe_lst _ _ _ _ (@pa_cons _ _ _ _ _ (@pe_int _ _ _ _) (@pa_nil _) (by rfl))) (by rfl) (by first | exact .inl rfl | exact .inr rfl | assumption)) (@pss_cons _ _ _ _ _ (@ps_for _ _ _ _ _ _ _ _ PassesOwn.never rfl (@pi_range2 _ _ _ _ _ _ _ rfl T.z_range (@pa_cons _ _ _ _ _ (@pe_int _ _ _ _) (@pa_cons _ _ _ _ _ (@pe_op _ _ _ _ _ _ _ _ op_addA (pv 1) (@pe_int _ _ _ _)) (@pa_nil _) (by rfl)) (by rfl)) (by rfl) (by rfl)) (@pg_name _ _ (i:=3) _ sc_best.nd rfl (by first | exact Or.inl rfl | exact Or.inr rfl) (by first | exact .inl rfl | exact .inr rfl | assumption)) (@pss_cons _ _ _ _ _ (@ps_setC _ _ _ _ _ _ _ _ _ _ _ _ _ _ (i:=4) _ _ _ sc_best.nd rfl (by first | exact Or.inl rfl | exact Or.inr rfl) (@comp_ck _ _ (sc:=defScope s_best) (N:=["_law_sizes_here","_law_whole","_law_best_here","_law_number","_law_some","_law_least","_law_many"]) (tn:=["_law_size"]) (names:=["_law_number","_law_best_here"]) (is:=[3,2]) rfl rfl (by decide +kernel) (by decide +kernel) rfl (by decide +kernel) rfl (by decide +kernel) (by decide +kernel) (by decide +kernel)) rfl (@pi_list _ _ _ _ (pv 0)) (fun _ _ _ _ => (@pg_name _ _ (i:=0) _ (show (["_law_size","_law_number","_law_best_here"]:List Str).Nodup by decide +kernel) rfl (Or.inl rfl) (Or.inr rfl))) (fun _ _ _ _ => (@pe_ix _ _ _ _ _ _ _ ix_LTc (pv 2) (@pe_op _ _ _ _ _ _ _ _ op_sub (pv 1) (pv 0)) (fun _ _ => rfl))) (fun _ _ _ _ => (@pts_one _ _ _ (@pt_cmpR _ _ _ _ _ _ _ _ op_le (pv 0) (pv 1) (nomark _)))) (by intro _; rfl) (by rfl) (by first | exact .inl rfl | exact .inr rfl | assumption)) (@pss_cons _ _ _ _ _ (@ps_set _ _ (i:=5) _ _ _ _ sc_best.nd rfl (by first | exact Or.inl rfl | exact Or.inr rfl) (@pe_non _ _ _) (by rfl) (by first | exact .inl rfl | exact .inr rfl | assumption)) (@pss_cons _ _ _ _ _ (@ps_for _ _ _ _ _ _ _ _ PassesOwn.never rfl (@pi_list _ _ _ _ (pv 4)) (@pg_name _ _ (i:=6) _ sc_best.nd rfl (by first | exact Or.inl rfl | exact Or.inr rfl) (by first | exact .inl rfl | exact .inr rfl | assumption)) (@pss_one _ _ _ (@ps_if _ _ _ _ _ _ _ _ (@PW.pt _ _ _ (@pw_and _ _ _ _ _ _ _ (@pt_cmpR _ _ _ _ _ _ _ _ op_notN2 (pv 6) (@pe_non _ _ _) (nomark _)) (@pw_and1 _ _ _ _ (@PW.pt _ _ _ (@pw_or _ _ _ _ _ _ _ (@pt_cmpR _ _ _ _ _ _ _ _ op_isN2 (pv 5) (@pe_non _ _ _) (nomark _)) (@pw_or1 _ _ _ _ (@pt_cmpR _ _ _ _ _ _ _ _ op_lt (pv 6) (pv 5) (nomark _)))))))) (@pss_one _ _ _ (@ps_set _ _ (i:=5) _ _ _ _ sc_best.nd rfl (by first | exact Or.inl rfl | exact Or.inr rfl) (pv 6) (by rfl) (by first | exact .inl rfl | exact .inr rfl | assumption))) (@pss_nil _))) (by intro _; rfl)) (@pss_cons _ _ _ _ _ (@ps_if _ _ _ _ _ _ _ _ (@pt_cmpR _ _ _ _ _ _ _ _ op_notN2 (pv 5) (@pe_non _ _ _) (nomark _)) (@pss_one _ _ _ (@ps_set _ _ (i:=5) _ _ _ _ sc_best.nd rfl (by first | exact Or.inl rfl | exact Or.inr rfl) (@pe_op _ _ _ _ _ _ _ _ op_addA (pv 5) (@pe_int _ _ _ _)) (by rfl) (by first | exact .inl rfl | exact .inr rfl | assumption))) (@pss_nil _)) (@pss_one _ _ _ (@ps_expr _ _ _ _ (@pe_bm _ _ _ _ _ _ _ _ _ _ _ _ PySem.F.plainAttrs_list PySem.F.slot_list_append PySem.F.type_list_append mt_append (pv 2) (@pa_cons _ _ _ _ _ (pv 5) (@pa_nil _) (by rfl)) (by rfl) (by rfl) (by rfl) (by rfl) (by rfl)) (by rfl))))))) (by intro _; rfl)) (@pss_one _ _ _ (@ps_ret _ _ _ _ (pv 2))))),?_⟩
    walk_at "go"
    refine r_lstK fun l hl0 => ?_
    walk_at "go"
    refine ⟨1,(n:Int) + 1,rfl,by omega,?_⟩
    have en:((n:Int) + 1 - 1).toNat = n:=by omega
    rw [en]
    refine r_forR (n:=n) (fun i σ G => ∃ (F:List (Option Nat)) (o1 o2 o3 o4:Option V),σ = [some (.ref p),some (.int n),some (.ref l),o1,o2,o3,o4] /\ Kp l H G /\ G l = some (.lst (F.map oV)) /\ Tbl S i F) ⟨[some 0],_,_,_,_,rfl,Kp.new hl0,upd_same,rfl,?_⟩ ?_ ?_
    . intro w o h
      cases w with
      | zero => cases h; exact isB_zero
      | succ w => simp at h
    . rintro i σ G hi ⟨F,o1,o2,o3,o4,rfl,kp,hF,hFl,hFb⟩
      have sG:Same H G:=fun b o e => kp _ _ (ne_of_none e hl0) e
      have hpG:=sG _ _ hp
      have ix:∀ s ∈ S,s <= i + 1 -> ∃ o,F[i + 1 - s]? = some o:=fun s hs hl1 => ⟨_,List.getElem?_eq_getElem (by have:=hS s hs; omega)⟩
      walk_at "go"
      refine r_listK (SqL.of hpG) ?_
      refine r_compLT (xs:=(S.map Int.ofNat).map V.int) (by rw [List.length_map,List.length_map]; omega) (fun acc j ys G' => Kp acc G G' /\ ys = (cntA F (i + 1) (S.take j)).map oV) (fun acc h0 => ⟨Kp.new h0,rfl⟩) ?_ ?_ ?_
      . rintro acc j ys G' h0 _ ⟨kp',_⟩
        exact SqL.of (kp' _ _ (ne_of_none hpG h0) hpG)
      . rintro acc j ys G' x h0 hx hly ha ⟨kp',rfl⟩
        rw [List.map_map,List.getElem?_map] at hx
        obtain ⟨s,hs,e⟩:=Option.map_eq_some_iff.mp hx
        obtain rfl:x = V.int (s:Int):=e.symm
        have hsS:=List.mem_of_getElem? hs
        have hlt:j < ((S.map Int.ofNat).map V.int).length:=by rw [List.length_map,List.length_map]; exact (List.getElem?_eq_some_iff.mp hs).1
        have hF':G' l = some (.lst (F.map oV)):=kp' _ _ (ne_of_none hF h0) hF
        walk_at "go"
        refine i_d (fun c => ?_) (fun c => ?_)
        . have hle:s <= i + 1:=by have:(s:Int) <= 1 + i:=c; omega
          obtain ⟨o,ho⟩:=ix s hsS hle
          have hix:atI (F.map oV) (1 + (i:Int) - (s:Int)) = some (oV o):=by
            rw [show 1 + (i:Int) - (s:Int) = ((i + 1 - s:Nat):Int) by omega]
            exact atI_nat (by rw [List.getElem?_map,ho]; rfl)
          walk_at "go"
          refine r_ixl hF' hix ?_
          walk_at "go"
          refine f_next hlt hly ha ⟨kp'.trans Kp.upd,?_⟩
          rw [List.take_add_one,hs]
          unfold cntA
          rw [List.filterMap_append]
          simp [hle,ho]
        . walk_at "go"
          refine f_skip hlt hly ha ⟨kp',?_⟩
          have hnl:¬ s <= i + 1:=by have:¬ (s:Int) <= 1 + i:=c; omega
          rw [List.take_add_one,hs]
          unfold cntA
          rw [List.filterMap_append]
          simp [hnl]
      . rintro acc ys G' h0 ha hly ⟨kp',rfl⟩
        rw [List.length_map,List.length_map,List.take_length] at ha
        have hF':G' l = some (.lst (F.map oV)):=kp' _ _ (ne_of_none hF h0) hF
        have sG':Same G G':=fun b o e => kp' _ _ (ne_of_none e h0) e
        have hcl:(cntA F (i + 1) S).length <= 100:=Nat.le_trans (List.length_filterMap_le _ _) hl
        have hcm:∀ o,o ∈ cntA F (i + 1) S ↔ ∃ s ∈ S,s <= i + 1 /\ F[i + 1 - s]? = some o:=fun o => cntA_mem
        generalize cntA F (i + 1) S = cs at ha hcl hcm
        have fin:∀ o',leastO cs o' -> Tbl S (i + 1) (F ++ [o'.map (· + 1)]):=fun o' hle => by
          refine ⟨by rw [List.length_append,hFl]; rfl,fun w o' h => ?_⟩
          rcases Nat.lt_or_ge w F.length with hw | hw
          . rw [List.getElem?_append_left hw] at h
            exact hFb w o' h
          . rw [List.getElem?_append_right hw] at h
            have hw0:w - F.length = 0:=by
              rcases Nat.eq_zero_or_pos (w - F.length) with z | z
              . exact z
              . rw [List.getElem?_eq_none (by simp only [List.length_singleton]; exact z)] at h; cases h
            rw [hw0] at h
            cases h
            rw [show w = i + 1 by omega]
            have hmem:∀ k,k ∈ cntW F (i + 1) S ↔ some k ∈ cs:=fun k => by rw [cntW_mem,hcm]
            refine tbl_next hS hFl hFb (fun e => ?_) fun k e => ?_
            . have e1:=Option.map_eq_none_iff.mp e
              have h2:=hle.1 e1
              rw [List.eq_nil_iff_forall_not_mem]
              intro k hk
              have:=h2 _ ((hmem k).mp hk)
              cases this
            . obtain ⟨j,e1,e2⟩:=Option.map_eq_some_iff.mp e
              obtain ⟨h3,h4⟩:=hle.2 j e1
              exact ⟨j,e2.symm,(hmem j).mpr h3,fun x hx => h4 x ((hmem x).mp hx)⟩
        walk_at "go"
        refine r_listK (SqL.of ha) ?_
        refine r_forL (xs:=cs.map oV) (fun j σ G2 => ∃ (o':Option Nat) (o5:Option V),σ = [some (.ref p),some (.int n),some (.ref l),some (.int (1 + i)),some (.ref acc),some (oV o'),o5] /\ G2 = G' /\ leastO (cs.take j) o') ⟨none,_,rfl,rfl,leastO_nil⟩ ?_ ?_ ?_
        . rintro j σ G2 _ ⟨o',o5,rfl,rfl,_⟩
          exact SqL.of ha
        . rintro j x σ G2 hx ⟨o',o5,rfl,rfl,hle⟩
          rw [List.getElem?_map] at hx
          obtain ⟨y,hy,rfl⟩:=Option.map_eq_some_iff.mp hx
          have etk:cs.take (j + 1) = cs.take j ++ [y]:=by rw [List.take_add_one,hy]; rfl
          walk_at "go"
          cases y with
          | none =>
            refine r_noNn ?_
            walk_at "go"
            exact ⟨o',_,rfl,rfl,by rw [etk]; exact leastO_none hle⟩
          | some k1 =>
            refine r_noNI ?_
            walk_at "go"
            cases o' with
            | none =>
              refine r_isNn ?_
              walk_at "go"
              exact ⟨some k1,_,rfl,rfl,by rw [etk]; exact leastO_new hle fun m e => by cases e⟩
            | some m1 =>
              refine r_isNi ?_
              walk_at "go"
              refine r_I0 ?_
              walk_at "go"
              refine i_d (fun c => ?_) (fun c => ?_)
              . walk_at "go"
                exact ⟨some k1,_,rfl,rfl,by rw [etk]; exact leastO_new hle fun m e => by cases e; omega⟩
              . walk_at "go"
                exact ⟨some m1,_,rfl,rfl,by rw [etk]; exact leastO_old hle (by omega)⟩
        . rintro σ G2 ⟨o',o5,rfl,rfl,hle⟩
          rw [List.length_map,List.take_length] at hle
          have hT2:=fin o' hle
          walk_at "go"
          cases o' with
          | none =>
            refine r_noNn ?_
            walk_at "go"
            refine r_app hF' (by rw [List.length_map]; omega) ?_
            walk_at "go"
            exact ⟨F ++ [none],_,_,_,_,rfl,(kp.trans sG'.kp).trans Kp.upd,by rw [upd_same,List.map_append]; rfl,hT2⟩
          | some m1 =>
            refine r_noNI ?_
            walk_at "go"
            refine a_int ?_
            walk_at "go"
            refine r_app hF' (by rw [List.length_map]; omega) ?_
            walk_at "go"
            exact ⟨F ++ [some (m1 + 1)],_,_,_,_,rfl,(kp.trans sG'.kp).trans Kp.upd,by rw [upd_same,List.map_append]; rfl,hT2⟩
    . rintro σ G ⟨F,o1,o2,o3,o4,rfl,kp,hF,hT⟩
      walk_at "go"
      exact q l G F hl0 (fun b o e => kp _ _ (ne_of_none e hl0) e) hF hT
set_option maxHeartbeats 0 in
theorem ok_list (T:Bl mg) (d:Df K mg "_law_list" s_list ["_law_sizes_here","_law_best_here","_law_whole"]  ) (W:XmS mg xt x1 x3 x4) (R_NoSum:XrS K xt x1 x3 x4 x3 3):Okf P w K mg base (k + 1) "_law_list" ["_law_sizes_here","_law_best_here","_law_whole"] spList:=by
  refine Okf.of d sc_list (fun vs H Q E h => ?_) (fun f cdv A outer s H vs Q E hr h => ?_)
  . obtain ⟨p,S,b,F,n,last,kk,rfl,_⟩:=h
    rfl
  . obtain ⟨p,S,b,F,n,last,kk,rfl,hp,hS,hl,hb,hF,hn,h9,hk,q⟩:=h
    refine ⟨_,(@pss_cons _ _ _ _ _ (@ps_set _ _ (i:=3) _ _ _ _ sc_list.nd rfl (by first | exact Or.inl rfl | exact Or.inr rfl) (@pe_lst _ _ _ _ (@pa_nil _)) (by rfl) (by first | exact .inl rfl | exact .inr rfl | assumption)) (@pss_cons _ _ _ _ _ (@ps_while _ _ _ _ _ _ PassesOwn.never (@pt_cmpR _ _ _ _ _ _ _ _ op_gt (pv 2) (@pe_int _ _ _ _) (nomark _)) (@pss_cons _ _ _ _ _ (@ps_setC _ _ _ _ _ _ _ _ _ _ _ _ _ _ (i:=4) _ _ _ sc_list.nd rfl (by first | exact Or.inl rfl | exact Or.inr rfl) (@comp_ck _ _ (sc:=defScope s_list) (N:=["_law_sizes_here","_law_best_here","_law_whole","_law_found","_law_some"]) (tn:=["_law_size"]) (names:=["_law_whole","_law_best_here"]) (is:=[2,1]) rfl rfl (by decide +kernel) (by decide +kernel) rfl (by decide +kernel) rfl (by decide +kernel) (by decide +kernel) (by decide +kernel)) rfl (@pi_list _ _ _ _ (@pe_callB _ _ _ _ _ _ _ _ _ call_sortL rfl T.z_sorted bt_sorted (@pa_cons _ _ _ _ _ (pv 0) (@pa_nil _) (by rfl)) (by decide) (by decide) (by rfl) (by rfl))) (fun _ _ _ _ => (@pg_name _ _ (i:=0) _ (show (["_law_size","_law_whole","_law_best_here"]:List Str).Nodup by decide +kernel) rfl (Or.inl rfl) (Or.inr rfl))) (fun _ _ _ _ => (pv 0)) (fun _ _ _ _ => (@pts_one _ _ _ (@PW.pt _ _ _ (@pw_and _ _ _ _ _ _ _ (@pt_cmpR _ _ _ _ _ _ _ _ op_le (pv 0) (pv 1) (nomark _)) (@pw_and1 _ _ _ _ (@pt_cmpR _ _ _ _ _ _ _ _ (op_eqA hr.units) (@pe_ix _ _ _ _ _ _ _ ix_LTc (pv 2) (@pe_op _ _ _ _ _ _ _ _ op_sub (pv 1) (pv 0)) (fun _ _ => rfl)) (@pe_op _ _ _ _ _ _ _ _ op_sub (@pe_ix _ _ _ _ _ _ _ ix_LTc (pv 2) (pv 1) (fun _ _ => rfl)) (@pe_int _ _ _ _)) (nomark _))))))) (by intro _; rfl) (by rfl) (by first | exact .inl rfl | exact .inr rfl | assumption)) (@pss_cons _ _ _ _ _ (@ps_expr _ _ _ _ (@pe_bm _ _ _ _ _ _ _ _ _ _ _ _ PySem.F.plainAttrs_list PySem.F.slot_list_append PySem.F.type_list_append mt_append (pv 3) (@pa_cons _ _ _ _ _ (@pe_ix _ _ _ _ _ _ _ ix_LT (pv 4) (@pe_un _ _ _ _ _ _ un_neg (@pe_int _ _ _ _)) (fun _ _ => rfl)) (@pa_nil _) (by rfl)) (by rfl) (by rfl) (by rfl) (by rfl) (by rfl)) (by rfl)) (@pss_one _ _ _ (@ps_set _ _ (i:=2) _ _ _ _ sc_list.nd rfl (by first | exact Or.inl rfl | exact Or.inr rfl) (@pe_op _ _ _ _ _ _ _ _ op_sub (pv 2) (@pe_ix _ _ _ _ _ _ _ ix_LT (pv 4) (@pe_un _ _ _ _ _ _ un_neg (@pe_int _ _ _ _)) (fun _ _ => rfl))) (by rfl) (by first | exact .inl rfl | exact .inr rfl | assumption)))))) (@pss_one _ _ _ (@ps_ret _ _ _ _ (pv 3))))),?_⟩
    walk_at "go"
    refine r_lstK fun l hl0 => ?_
    walk_at "go"
    refine r_while (fun σ G => ∃ (w kk:Nat) (L:List Nat) (o:Option V),σ = [some (.ref p),some (.ref b),some (.int w),some (.ref l),o] /\ Kp l H G /\ G l = some (.lst ((L.map Int.ofNat).map V.int)) /\ w <= n /\ F[w]? = some (some kk) /\ L.length + w <= n /\ ∀ M,Grd S w M -> Grd S n (L ++ M))
      (fun σ _ => match σ with | [_,_,some (.int z),_,_] => z.toNat | _ => 0) ⟨n,kk,[],_,rfl,Kp.new hl0,upd_same,Nat.le_refl _,hk,by simp,fun M h => h⟩ ?_
    rintro σ G ⟨w,k1,L,o,rfl,kG,hG,hw,hk1,hLl,hM⟩
    have sG:Same H G:=fun b o h => kG _ _ (ne_of_none h hl0) h
    walk_at "go"
    refine i_d (fun c => ?_) (fun c => ?_)
    . have h0:0 < w:=by omega
      have hw0:=h0
      have hB:=hF.2 _ _ hk1
      obtain ⟨k1,rfl⟩:∃ j,k1 = j + 1:=by
        obtain ⟨s,j,_,_,e,_⟩:=hB.1.head h0
        exact ⟨j,e⟩
      walk_at "go"
      refine wh_T ?_
      walk_at "go"
      refine r_sortL (sG _ _ hp) (by rw [List.length_map]; omega) fun l2 ys G2 hl2 s2 h2 pys sys => ?_
      obtain ⟨S',pS,rfl⟩:=perm_map_inv pys rfl
      rw [List.pairwise_map] at sys
      have memS:∀ x,x ∈ S' ↔ x ∈ S:=fun x => pS.mem_iff
      have hSl':S'.length = S.length:=pS.length_eq
      have hb2:=s2 _ _ (sG _ _ hb)
      have ix:∀ s ∈ S',s <= w -> ∃ o,F[w - s]? = some o:=fun s hs hl1 => ⟨_,List.getElem?_eq_getElem (by rw [hF.1]; omega)⟩
      obtain ⟨gd,hgd⟩:∃ gd:Nat -> Bool,∀ s,gd s = decide (s <= w /\ F[w - s]? = some (some k1)):=⟨_,fun _ => rfl⟩
      refine r_listK (SqL.of h2) ?_
      refine r_compLT (xs:=(S'.map Int.ofNat).map V.int) (by rw [List.length_map,List.length_map]; omega) (fun acc j ys G' => Kp acc G2 G' /\ ys = (((S'.take j).filter gd).map Int.ofNat).map V.int) (fun acc h0 => ⟨Kp.new h0,rfl⟩) ?_ ?_ ?_
      . rintro acc j ys G' h0 _ ⟨kp',_⟩
        exact SqL.of (kp' _ _ (ne_of_none h2 h0) h2)
      . rintro acc j ys G' x h0 hx hly ha ⟨kp',rfl⟩
        rw [List.map_map,List.getElem?_map] at hx
        obtain ⟨s',hs,e⟩:=Option.map_eq_some_iff.mp hx
        obtain rfl:x = V.int (s':Int):=e.symm
        have hsS:=List.mem_of_getElem? hs
        have hlt:j < ((S'.map Int.ofNat).map V.int).length:=by rw [List.length_map,List.length_map]; exact (List.getElem?_eq_some_iff.mp hs).1
        have hb':G' b = some (.lst (F.map oV)):=kp' _ _ (ne_of_none hb2 h0) hb2
        have skip:gd s' = false -> fSkip ((S'.map Int.ofNat).map V.int).length acc (fun j ys G' => Kp acc G2 G' /\ ys = (((S'.take j).filter gd).map Int.ofNat).map V.int) ((((S'.take j).filter gd).map Int.ofNat).map V.int) j G':=fun e => by
          refine f_skip hlt hly ha ⟨kp',?_⟩
          rw [List.take_add_one,hs,List.filter_append]
          simp [e]
        walk_at "go"
        refine i_d (fun c => ?_) (fun c => ?_)
        . have hle:s' <= w:=by omega
          obtain ⟨o',ho⟩:=ix s' hsS hle
          walk_at "go"
          refine r_ixl hb' (v:=oV o') (by rw [show (w:Int) - (s':Int) = ((w - s':Nat):Int) by omega]; exact atI_nat (by rw [List.getElem?_map,ho]; rfl)) ?_
          walk_at "go"
          refine r_ixl hb' (v:=V.int ((k1 + 1:Nat):Int)) (atI_nat (by rw [List.getElem?_map,hk1]; rfl)) ?_
          walk_at "go"
          cases o' with
          | none =>
            refine e_NI ?_
            walk_at "go"
            exact skip (by rw [hgd]; simp [ho])
          | some j1 =>
            refine e_int ?_
            walk_at "go"
            refine i_d (fun c2 => ?_) (fun c2 => ?_)
            . walk_at "go"
              refine f_next hlt hly ha ⟨kp'.trans Kp.upd,?_⟩
              have:j1 = k1:=by omega
              have eg:gd s' = true:=by rw [hgd]; simp [ho,hle,this]
              rw [List.take_add_one,hs,List.filter_append]
              simp [eg]
            . walk_at "go"
              exact skip (by rw [hgd]; simp [ho]; omega)
        . walk_at "go"
          exact skip (by rw [hgd]; simp; omega)
      . rintro acc ys G' h0 ha hly ⟨kp',rfl⟩
        rw [List.length_map,List.length_map,List.take_length] at ha
        have sG':Same G2 G':=fun b o e => kp' _ _ (ne_of_none e h0) e
        have hne:S'.filter gd ≠ []:=by
          obtain ⟨s,j,hs,hl',ej,hj⟩:=hB.1.head hw0
          cases ej
          obtain ⟨o',ho⟩:=ix s ((memS s).mpr hs) hl'
          have hbo:=hF.2 _ _ ho
          have hbk:isB S (w - s) (some k1):=⟨hj,fun i hi => by have:=hB.2 _ (hi.cons hs hl'); omega⟩
          rw [hbo.uniq hbk] at ho
          have:s ∈ S'.filter gd:=List.mem_filter.mpr ⟨(memS s).mpr hs,by rw [hgd]; simp [hl',ho]⟩
          exact List.ne_nil_of_mem this
        obtain ⟨ini,s',es⟩:∃ ini s',S'.filter gd = ini ++ [s']:=⟨_,_,(List.dropLast_concat_getLast hne).symm⟩
        have hs':s' ∈ S'.filter gd:=by rw [es]; simp
        obtain ⟨hs1,hs2⟩:=List.mem_filter.mp hs'
        rw [hgd,decide_eq_true_iff] at hs2
        have hpw:(S'.filter gd).Pairwise (fun a b => Int.ofNat a <= Int.ofNat b):=sys.filter _
        rw [es,List.pairwise_append] at hpw
        have hix:atI (((S'.filter gd).map Int.ofNat).map V.int) (-1) = some (V.int (s':Int)):=by
          rw [es,List.map_append,List.map_append]
          exact atI_last _ _
        have hGl:=sG' _ _ (s2 _ _ hG)
        have hs0:=hS s' ((memS s').mp hs1)
        walk_at "go"
        refine r_ixl ha hix ?_
        walk_at "go"
        refine r_app hGl (by rw [List.length_map,List.length_map]; omega) ?_
        have kE:Kp l G' (L2.upd G' l (.lst ((L.map Int.ofNat).map V.int ++ [V.int (s':Int)]))):=Kp.upd
        have hE:=upd_same (H:=G') (a:=l) (o:=.lst ((L.map Int.ofNat).map V.int ++ [V.int (s':Int)]))
        generalize L2.upd G' l (.lst ((L.map Int.ofNat).map V.int ++ [V.int (s':Int)])) = G3 at kE hE ⊢
        have hacc:acc ≠ l:=Ne.symm (ne_of_none (s2 _ _ hG) h0)
        walk_at "go"
        refine r_ixl (kE _ _ hacc ha) hix ?_
        walk_at "go"
        rw [show (w:Int) - (s':Int) = ((w - s':Nat):Int) by omega]
        refine ⟨⟨w - s',k1,L ++ [s'],_,rfl,fun b o nb h => kE _ _ nb (sG' _ _ (s2 _ _ (kG _ _ nb h))),by rw [hE]; simp,by omega,hs2.2,by simp; omega,fun M hM' => ?_⟩,by show ((w - s':Nat):Int).toNat < (w:Int).toNat; omega⟩
        rw [List.append_assoc]
        refine hM _ (.cons ((memS s').mp hs1) hs2.1 hs0 hB (hF.2 _ _ hs2.2) (fun s'' hs'' hl'' hb'' => ?_) hM')
        obtain ⟨o',ho⟩:=ix s'' ((memS s'').mpr hs'') hl''
        rw [(hF.2 _ _ ho).uniq hb''] at ho
        have:s'' ∈ S'.filter gd:=List.mem_filter.mpr ⟨(memS s'').mpr hs'',by rw [hgd]; simp [hl'',ho]⟩
        rw [es] at this
        rcases List.mem_append.mp this with h | h
        . have:=hpw.2.2 s'' h s' (by simp)
          exact Int.ofNat_le.mp this
        . rw [List.mem_singleton.mp h]; exact Nat.le_refl _
    . have:w = 0:=by omega
      subst this
      walk_at "go"
      have hfin:=hM [] .nil
      rw [List.append_nil] at hfin
      exact q l L G hl0 sG hG hfin
set_option maxHeartbeats 0 in
theorem ok_told (T:Bl mg) (d:Df K mg "_law_told" s_told ["_law_box","_law_time"]  ) (W:XmS mg xt x1 x3 x4) (R_NoSum:XrS K xt x1 x3 x4 x3 3) (o_made_of:OkfX P w K mg base k "made_of" ["box","time"] [] (spMade K x3)):Okf P w K mg base (k + 1) "_law_told" ["_law_box","_law_time"] (spTold61 K):=by
  refine Okf.of d sc_told (fun vs H Q E h => ?_) (fun f cdv A outer s H vs Q E hr h => ?_)
  . obtain ⟨l,ms,u,n,tq,rfl,_⟩:=h
    rfl
  . obtain ⟨l,ms,u,n,tq,rfl,hu,hl,ht,hp,hm,hn,h1,h64,hT,q1,q2⟩:=h
    refine ⟨_,(@pss_cons _ _ _ _ _ (@ps_set _ _ (i:=2) _ _ _ _ sc_told.nd rfl (by first | exact Or.inl rfl | exact Or.inr rfl) (@pe_non _ _ _) (by rfl) (by first | exact .inl rfl | exact .inr rfl | assumption)) (@pss_cons _ _ _ _ _ (@ps_set _ _ (i:=3) _ _ _ _ sc_told.nd rfl (by first | exact Or.inl rfl | exact Or.inr rfl) (@pe_lst _ _ _ _ (@pa_nil _)) (by rfl) (by first | exact .inl rfl | exact .inr rfl | assumption)) (@pss_cons _ _ _ _ _ (@ps_try _ _ _ _ (i:=4) _ _ _ _ _ _ _ _ rfl rfl rfl rfl W.t sc_told.nd rfl rfl (@px_set _ _ _ _ (i:=2) _ _ sc_told.nd rfl (by first | exact Or.inl rfl | exact Or.inr rfl) (@pex_call _ _ _ _ _ _ _ _ _ _ _ o_made_of rfl (fun _ _ z => z) hr rfl (@pa_cons _ _ _ _ _ (pv 0) (@pa_cons _ _ _ _ _ (pv 1) (@pa_nil _) (by rfl)) (by rfl)) (by decide) (by rfl) (by rfl)) (by rfl) (by first | exact .inl rfl | exact .inr rfl)) (fun y => (@pss_one _ _ _ (@ps_set _ _ (i:=3) _ _ _ _ sc_told.nd rfl (by first | exact Or.inl rfl | exact Or.inr rfl) (@pe_lst _ _ _ _ (@pa_cons _ _ _ _ _ (@pe_callB _ _ _ _ _ _ _ _ _ call_isX rfl T.z_isinstance bt_isinstance (@pa_cons _ _ _ _ _ (pv 4) (@pa_cons _ _ _ _ _ (@pe_glob _ _ (v:=.ref x3) _ _ rfl W.m_NoSum rfl (by decide)) (@pa_nil _) (by rfl)) (by rfl)) (by decide) (by decide) (by rfl) (by rfl)) (@pa_cons _ _ _ _ _ (@pe_callB _ _ _ _ _ _ _ _ _ call_isX rfl T.z_isinstance bt_isinstance (@pa_cons _ _ _ _ _ (pv 4) (@pa_cons _ _ _ _ _ (@pe_bltn _ _ (v:=.ty "ValueError") _ _ rfl W.zV bt_ValueError rfl (by decide) (by decide)) (@pa_nil _) (by rfl)) (by rfl)) (by decide) (by decide) (by rfl) (by rfl)) (@pa_cons _ _ _ _ _ (@pe_callB _ _ _ _ _ _ _ _ _ call_isX rfl T.z_isinstance bt_isinstance (@pa_cons _ _ _ _ _ (pv 4) (@pa_cons _ _ _ _ _ (@pe_glob _ _ (v:=.ref x4) _ _ rfl W.m_TooMany rfl (by decide)) (@pa_nil _) (by rfl)) (by rfl)) (by decide) (by decide) (by rfl) (by rfl)) (@pa_cons _ _ _ _ _ (@pe_callB _ _ _ _ _ _ _ _ _ call_isX rfl T.z_isinstance bt_isinstance (@pa_cons _ _ _ _ _ (pv 4) (@pa_cons _ _ _ _ _ (@pe_glob _ _ (v:=.ref x1) _ _ rfl W.m_NoNet rfl (by decide)) (@pa_nil _) (by rfl)) (by rfl)) (by decide) (by decide) (by rfl) (by rfl)) (@pa_nil _) (by rfl)) (by rfl)) (by rfl)) (by rfl))) (by rfl) (by first | exact .inl rfl | exact .inr rfl | assumption)))) (by decide)) (@pss_cons _ _ _ _ _ (@ps_if _ _ _ _ _ _ _ _ (@pt_cmpR _ _ _ _ _ _ _ _ (op_eqA hr.units) (pv 3) (@pe_lst _ _ _ _ (@pa_cons _ _ _ _ _ (@pe_bl _ _ _ _) (@pa_cons _ _ _ _ _ (@pe_bl _ _ _ _) (@pa_cons _ _ _ _ _ (@pe_bl _ _ _ _) (@pa_cons _ _ _ _ _ (@pe_bl _ _ _ _) (@pa_nil _) (by rfl)) (by rfl)) (by rfl)) (by rfl))) (nomark _)) (@pss_one _ _ _ (@ps_ret _ _ _ _ (@pe_str _ _ _ _))) (@pss_nil _)) (@pss_one _ _ _ (@ps_ret _ _ _ _ (pv 2))))))),?_⟩
    walk_at "go"
    refine r_lstK fun l0 h0 => ?_
    have s0:=Same.new (o:=.lst []) h0
    have g0:=upd_same (H:=H) (a:=l0) (o:=.lst [])
    generalize L2.upd H l0 (.lst []) = H0 at s0 g0 ⊢
    have t0:=LTab.same hT s0
    walk_at "go"
    refine ⟨l,ms,u,n,tq,rfl,hu,LQ.sm hl s0,FxQ.same ht s0,hp,hm,hn,h1,h64,t0,fun hno H1 k1 t1 => ?_,fun L l' H1 hL hl' k1 t1 hq => ?_⟩
    . refine r_tryE R_NoSum.t fun y hy => ?_
      have s1:=Same.new (o:=excO y x3) hy
      have y1:=upd_same (H:=H1) (a:=y) (o:=excO y x3)
      generalize L2.upd H1 y (excO y x3) = H2 at s1 y1 ⊢
      walk_at "go"
      refine r_isXc y1 R_NoSum.x R_NoSum.k3 ?_
      walk_at "go"
      refine r_isXt y1 R_NoSum.x R_NoSum.v ?_
      walk_at "go"
      refine r_isXc y1 R_NoSum.x R_NoSum.k4 ?_
      walk_at "go"
      refine r_isXc y1 R_NoSum.x R_NoSum.k1 ?_
      walk_at "go"
      refine r_lstK fun l9 h9 => ?_
      have s2:=Same.new (o:=.lst [V.bl (Nat.beq 3 3),.bl true,.bl (Nat.beq 4 3),.bl (Nat.beq 1 3)]) h9
      have g2:L2.upd H2 l9 (.lst [V.bl (Nat.beq 3 3),.bl true,.bl (Nat.beq 4 3),.bl (Nat.beq 1 3)]) l9 = some (.lst ([true,true,false,false].map V.bl)):=by
        rw [upd_same]
        rfl
      generalize L2.upd H2 l9 (.lst [V.bl (Nat.beq 3 3),.bl true,.bl (Nat.beq 4 3),.bl (Nat.beq 1 3)]) = H3 at s2 g2 ⊢
      walk_at "go"
      refine r_lstK fun m1 e1 => ?_
      have z1:=Same.new (o:=.lst [.bl true,.bl true,.bl false,.bl false]) e1
      refine e_bls [true,true,false,false] (z1 _ _ g2) upd_same ?_
      walk_at "go"
      have sA:=s1.trans (s2.trans z1)
      exact q1 hno _ (s0.kp.trans (k1.trans sA.kp)) (LTab.same t1 sA)
    . have g1:=kT k1 t0 g0 (fun _ z => by cases z)
      walk_at "go"
      refine r_lstK fun m1 e1 => ?_
      have z1:=Same.new (o:=.lst [.bl true,.bl true,.bl false,.bl false]) e1
      have gz:=upd_same (H:=H1) (a:=m1) (o:=.lst [.bl true,.bl true,.bl false,.bl false])
      generalize L2.upd H1 m1 (.lst [.bl true,.bl true,.bl false,.bl false]) = H2 at z1 gz ⊢
      refine e_lst (ds:=[]) (es:=[.bl true,.bl true,.bl false,.bl false]) ⟨l0,[],rfl,z1 _ _ g1,rfl⟩ ⟨m1,_,rfl,gz,_,_,rfl,rfl,_,_,rfl,rfl,_,_,rfl,rfl,_,_,rfl,rfl,rfl⟩ (by decide) ?_
      rw [show deqL [] [.bl true,.bl true,.bl false,.bl false] = false from rfl]
      walk_at "go"
      exact q2 L l' H2 hL (s0.free hl') (s0.kp.trans (k1.trans z1.kp)) (LTab.same t1 z1) (LQ.sm hq z1)
set_option maxHeartbeats 0 in
theorem ok_law {f:Addr} {fd:FuncData} (T:Bl mg) (F:Fun K "law" "law" s_law f fd) (W:XmS mg xt x1 x3 x4) (R_NoSum:XrS K xt x1 x3 x4 x3 3) (o_made_of:OkfX P w K mg base k "made_of" ["box","time"] [] (spMade K x3)) (o_told:Okf P w K mg base k "_law_told" ["_law_box","_law_time"] (spTold61 K)) (o_list:Okf P w K mg base k "_law_list" ["_law_sizes_here","_law_best_here","_law_whole"] spList) (o_times_of:Okf P w K mg base k "_law_times_of" ["_law_unit_here","_law_sizes_here"] spTimes) (o_lowest:Okf P w K mg base k "_law_lowest" ["_law_top","_law_bottom"] spLowest) (o_cell_at:Okf P w K mg base k "_law_cell_at" ["_law_script","_law_k"] (spCell K)) (o_great:Okf P w K mg base k "_law_great" ["_law_cell"] spGreat) (o_best:Okf P w K mg base k "_law_best" ["_law_sizes_here","_law_whole"] spBest) (o_unit:Okf P w K mg base k "_law_unit" ["_law_number"] spUnit) (o_numbers:Okf P w K mg base k "_law_numbers" ["_law_script","_law_first","_law_many","_law_size"] (spNumbers K)) (o_sizes:Okf P w K mg base k "_law_sizes" ["_law_numbers_here"] (spSizes K)) (o_mixed:Okf P w K mg base k "_law_mixed" ["_law_cell","_law_k"] spMixed):FnOk P w K mg base CX0 (k + 1) f fd ["_law_script"] (spLaw K):=by
  refine F.ok sc_law (fun vs H Q E h => ?_) (fun cdv A outer s H vs Q E hr h => ?_)
  . obtain ⟨a,ns,rfl,_⟩:=h
    rfl
  . obtain ⟨a,ns,rfl,hS,h63,hT,q⟩:=h
    refine ⟨_,(@pss_cons _ _ _ _ _ (@ps_set _ _ (i:=1) _ _ _ _ sc_law.nd rfl (by first | exact Or.inl rfl | exact Or.inr rfl) (@pe_callO _ _ _ _ _ _ _ _ _ _ o_mixed hr rfl (@pa_cons _ _ _ _ _ (@pe_callO _ _ _ _ _ _ _ _ _ _ o_cell_at hr rfl (@pa_cons _ _ _ _ _ (pv 0) (@pa_cons _ _ _ _ _ (@pe_int _ _ _ _) (@pa_nil _) (by rfl)) (by rfl)) (by decide) (by rfl) (by rfl)) (@pa_cons _ _ _ _ _ (@pe_int _ _ _ _) (@pa_nil _) (by rfl)) (by rfl)) (by decide) (by rfl) (by rfl)) (by rfl) (by first | exact .inl rfl | exact .inr rfl | assumption)) (@pss_cons _ _ _ _ _ (@ps_set _ _ (i:=2) _ _ _ _ sc_law.nd rfl (by first | exact Or.inl rfl | exact Or.inr rfl) (@pe_callO _ _ _ _ _ _ _ _ _ _ o_sizes hr rfl (@pa_cons _ _ _ _ _ (@pe_callO _ _ _ _ _ _ _ _ _ _ o_numbers hr rfl (@pa_cons _ _ _ _ _ (pv 0) (@pa_cons _ _ _ _ _ (@pe_int _ _ _ _) (@pa_cons _ _ _ _ _ (@pe_op _ _ _ _ _ _ _ _ op_addA (@pe_int _ _ _ _) (@pe_op _ _ _ _ _ _ _ _ op_mod (pv 1) (@pe_int _ _ _ _))) (@pa_cons _ _ _ _ _ (@pe_int _ _ _ _) (@pa_nil _) (by rfl)) (by rfl)) (by rfl)) (by rfl)) (by decide) (by rfl) (by rfl)) (@pa_nil _) (by rfl)) (by decide) (by rfl) (by rfl)) (by rfl) (by first | exact .inl rfl | exact .inr rfl | assumption)) (@pss_cons _ _ _ _ _ (@ps_set _ _ (i:=3) _ _ _ _ sc_law.nd rfl (by first | exact Or.inl rfl | exact Or.inr rfl) (@pe_callO _ _ _ _ _ _ _ _ _ _ o_unit hr rfl (@pa_cons _ _ _ _ _ (@pe_op _ _ _ _ _ _ _ _ op_fdivB (pv 1) (@pe_int _ _ _ _)) (@pa_nil _) (by rfl)) (by decide) (by rfl) (by rfl)) (by rfl) (by first | exact .inl rfl | exact .inr rfl | assumption)) (@pss_cons _ _ _ _ _ (@ps_set _ _ (i:=4) _ _ _ _ sc_law.nd rfl (by first | exact Or.inl rfl | exact Or.inr rfl) (@pe_callO _ _ _ _ _ _ _ _ _ _ o_times_of hr rfl (@pa_cons _ _ _ _ _ (pv 3) (@pa_cons _ _ _ _ _ (pv 2) (@pa_nil _) (by rfl)) (by rfl)) (by decide) (by rfl) (by rfl)) (by rfl) (by first | exact .inl rfl | exact .inr rfl | assumption)) (@pss_cons _ _ _ _ _ (@ps_set _ _ (i:=5) _ _ _ _ sc_law.nd rfl (by first | exact Or.inl rfl | exact Or.inr rfl) (@pe_callO _ _ _ _ _ _ _ _ _ _ o_best hr rfl (@pa_cons _ _ _ _ _ (pv 2) (@pa_cons _ _ _ _ _ (@pe_int _ _ _ _) (@pa_nil _) (by rfl)) (by rfl)) (by decide) (by rfl) (by rfl)) (by rfl) (by first | exact .inl rfl | exact .inr rfl | assumption)) (@pss_cons _ _ _ _ _ (@ps_set _ _ (i:=6) _ _ _ _ sc_law.nd rfl (by first | exact Or.inl rfl | exact Or.inr rfl) (@pe_callO _ _ _ _ _ _ _ _ _ _ o_great hr rfl (@pa_cons _ _ _ _ _ (@pe_callO _ _ _ _ _ _ _ _ _ _ o_cell_at hr rfl (@pa_cons _ _ _ _ _ (pv 0) (@pa_cons _ _ _ _ _ (@pe_int _ _ _ _) (@pa_nil _) (by rfl)) (by rfl)) (by decide) (by rfl) (by rfl)) (@pa_nil _) (by rfl)) (by decide) (by rfl) (by rfl)) (by rfl) (by first | exact .inl rfl | exact .inr rfl | assumption)) (@pss_cons _ _ _ _ _ (@ps_for _ _ _ _ _ _ _ _ PassesOwn.never rfl (@pi_range1 _ _ _ _ _ _ rfl T.z_range (@pa_cons _ _ _ _ _ (@pe_int _ _ _ _) (@pa_nil _) (by rfl)) (by rfl)) (@pg_name _ _ (i:=7) _ sc_law.nd rfl (by first | exact Or.inl rfl | exact Or.inr rfl) (by first | exact .inl rfl | exact .inr rfl | assumption)) (@pss_cons _ _ _ _ _ (@ps_set _ _ (i:=8) _ _ _ _ sc_law.nd rfl (by first | exact Or.inl rfl | exact Or.inr rfl) (@pe_ix _ _ _ _ _ _ _ ix_LT (@pe_lst _ _ _ _ (@pa_cons _ _ _ _ _ (@pe_op _ _ _ _ _ _ _ _ op_mod (pv 6) (@pe_int _ _ _ _)) (@pa_cons _ _ _ _ _ (@pe_op _ _ _ _ _ _ _ _ op_mod (pv 6) (@pe_int _ _ _ _)) (@pa_nil _) (by rfl)) (by rfl))) (@pe_op _ _ _ _ _ _ _ _ op_mod (pv 7) (@pe_int _ _ _ _)) (fun _ _ => rfl)) (by rfl) (by first | exact .inl rfl | exact .inr rfl | assumption)) (@pss_cons _ _ _ _ _ (@ps_set _ _ (i:=6) _ _ _ _ sc_law.nd rfl (by first | exact Or.inl rfl | exact Or.inr rfl) (@pe_op _ _ _ _ _ _ _ _ op_addA (@pe_op _ _ _ _ _ _ _ _ op_fdivB (pv 6) (@pe_int _ _ _ _)) (@pe_op _ _ _ _ _ _ _ _ op_mulB (@pe_int _ _ _ _) (pv 7))) (by rfl) (by first | exact .inl rfl | exact .inr rfl | assumption)) (@pss_cons _ _ _ _ _ (@ps_set _ _ (i:=9) _ _ _ _ sc_law.nd rfl (by first | exact Or.inl rfl | exact Or.inr rfl) (@pe_callO _ _ _ _ _ _ _ _ _ _ o_lowest hr rfl (@pa_cons _ _ _ _ _ (@pe_op _ _ _ _ _ _ _ _ op_mulB (@pe_ix _ _ _ _ _ _ _ ix_LT (pv 3) (@pe_int _ _ _ _) (fun _ _ => rfl)) (pv 8)) (@pa_cons _ _ _ _ _ (@pe_ix _ _ _ _ _ _ _ ix_LT (pv 3) (@pe_int _ _ _ _) (fun _ _ => rfl)) (@pa_nil _) (by rfl)) (by rfl)) (by decide) (by rfl) (by rfl)) (by rfl) (by first | exact .inl rfl | exact .inr rfl | assumption)) (@pss_cons _ _ _ _ _ (@ps_set _ _ (i:=10) _ _ _ _ sc_law.nd rfl (by first | exact Or.inl rfl | exact Or.inr rfl) (@pe_str _ _ _ _) (by rfl) (by first | exact .inl rfl | exact .inr rfl | assumption)) (@pss_cons _ _ _ _ _ (@ps_if _ _ _ _ _ _ _ _ (@pt_cmpR _ _ _ _ _ _ _ _ op_notN2 (@pe_ix _ _ _ _ _ _ _ ix_LT (pv 5) (pv 8) (fun _ _ => rfl)) (@pe_non _ _ _) (nomark _)) (@pss_one _ _ _ (@ps_set _ _ (i:=10) _ _ _ _ sc_law.nd rfl (by first | exact Or.inl rfl | exact Or.inr rfl) (@pe_callO _ _ _ _ _ _ _ _ _ _ o_times_of hr rfl (@pa_cons _ _ _ _ _ (pv 3) (@pa_cons _ _ _ _ _ (@pe_callO _ _ _ _ _ _ _ _ _ _ o_list hr rfl (@pa_cons _ _ _ _ _ (pv 2) (@pa_cons _ _ _ _ _ (pv 5) (@pa_cons _ _ _ _ _ (pv 8) (@pa_nil _) (by rfl)) (by rfl)) (by rfl)) (by decide) (by rfl) (by rfl)) (@pa_nil _) (by rfl)) (by rfl)) (by decide) (by rfl) (by rfl)) (by rfl) (by first | exact .inl rfl | exact .inr rfl | assumption))) (@pss_nil _)) (@pss_cons _ _ _ _ _ (@ps_set _ _ (i:=11) _ _ _ _ sc_law.nd rfl (by first | exact Or.inl rfl | exact Or.inr rfl) (@pe_callTy _ _ _ _ _ _ _ _ _ c_list rfl T.z_list bt_list (@pa_cons _ _ _ _ _ (pv 4) (@pa_nil _) (by rfl)) (by decide) (by decide) (by rfl) (by rfl)) (by rfl) (by first | exact .inl rfl | exact .inr rfl | assumption)) (@pss_cons _ _ _ _ _ (@ps_set _ _ (i:=12) _ _ _ _ sc_law.nd rfl (by first | exact Or.inl rfl | exact Or.inr rfl) (@pe_callO _ _ _ _ _ _ _ _ _ _ o_told hr rfl (@pa_cons _ _ _ _ _ (pv 11) (@pa_cons _ _ _ _ _ (pv 9) (@pa_nil _) (by rfl)) (by rfl)) (by decide) (by rfl) (by rfl)) (by rfl) (by first | exact .inl rfl | exact .inr rfl | assumption)) (@pss_cons _ _ _ _ _ (@ps_if _ _ _ _ _ _ _ _ (@PW.pt _ _ _ (@pw_or _ _ _ _ _ _ _ (@pt_cmpR _ _ _ _ _ _ _ _ (op_neA hr.units) (pv 12) (pv 10) (nomark _)) (@pw_or1 _ _ _ _ (@pt_cmpR _ _ _ _ _ _ _ _ (op_neA hr.units) (pv 11) (pv 4) (nomark _))))) (@pss_one _ _ _ (@ps_ret _ _ _ _ (@pe_bl _ _ _ _))) (@pss_nil _)) (@pss_one _ _ _ (@ps_if _ _ _ _ _ _ _ _ (@pt_cmpR _ _ _ _ _ _ _ _ (op_neM hr.units) (pv 10) (@pe_str _ _ _ _) (nomark _)) (@pss_cons _ _ _ _ _ (@ps_expr _ _ _ _ (@pe_bm _ _ _ _ _ _ _ _ _ _ _ _ PySem.F.plainAttrs_list PySem.F.slot_list_append PySem.F.type_list_append mt_append (pv 12) (@pa_cons _ _ _ _ _ (@pe_tup _ _ _ _ _ (@pa_cons _ _ _ _ _ (@pe_int _ _ _ _) (@pa_cons _ _ _ _ _ (@pe_int _ _ _ _) (@pa_nil _) (by rfl)) (by rfl))) (@pa_nil _) (by rfl)) (by rfl) (by rfl) (by rfl) (by rfl) (by rfl)) (by rfl)) (@pss_one _ _ _ (@ps_if _ _ _ _ _ _ _ _ (@pt_cmpR _ _ _ _ _ _ _ _ (op_neA hr.units) (@pe_callX _ _ _ _ _ _ _ _ _ _ _ _ o_made_of hr rfl passN (@pa_cons _ _ _ _ _ (pv 4) (@pa_cons _ _ _ _ _ (pv 9) (@pa_nil _) (by rfl)) (by rfl)) (by decide) (by rfl) (by rfl)) (pv 10) (nomark _)) (@pss_one _ _ _ (@ps_ret _ _ _ _ (@pe_bl _ _ _ _))) (@pss_nil _)))) (@pss_nil _))))))))))) (by intro _; rfl)) (@pss_one _ _ _ (@ps_ret _ _ _ _ (@pe_cmpR _ _ _ _ _ _ _ _ (op_eqA hr.units) (@pe_callX _ _ _ _ _ _ _ _ _ _ _ _ o_made_of hr rfl passN (@pa_cons _ _ _ _ _ (pv 4) (@pa_cons _ _ _ _ _ (@pe_tup _ _ _ _ _ (@pa_cons _ _ _ _ _ (@pe_int _ _ _ _) (@pa_cons _ _ _ _ _ (@pe_int _ _ _ _) (@pa_nil _) (by rfl)) (by rfl))) (@pa_nil _) (by rfl)) (by rfl)) (by decide) (by rfl) (by rfl)) (@pe_lst _ _ _ _ (@pa_nil _)) (nomark _))))))))))),?_⟩
    walk_at "go"
    refine ⟨a,ns,0,rfl,hS,Int.le_refl 0,fun c0 => ?_⟩
    walk_at "go"
    refine ⟨c0,5,rfl,by decide,by decide,fun r hr0 hr1 => ?_⟩
    walk_at "go"
    refine ⟨a,ns,1,_,80,rfl,hS,by decide,by decide,by omega,by omega,by decide,by decide,fun p1 H1 xs hp1 s1 h1 hxl hx => ?_⟩
    walk_at "go"
    refine ⟨p1,xs,rfl,h1,hx,by omega,by intro e; rw [e] at hxl; simp at hxl; omega,fun p2 S H2 hp2 s2 h2 hS2 hSl hS0 => ?_⟩
    walk_at "go"
    refine ⟨_,rfl,fun pu u H3 hu hpu s3 h3 => ?_⟩
    have h23:=s3 _ _ h2
    walk_at "go"
    refine ⟨pu,u,p2,S,rfl,hu,h3,h23,fun s hs => by have:=hS2 s hs; omega,by omega,fun pb H4 hpb s4 h4 => ?_⟩
    have h24:=s4 _ _ h23
    have h34:=s4 _ _ h3
    walk_at "go"
    refine ⟨p2,S,400,rfl,h24,fun s hs => (hS2 s hs).1,by omega,by decide,fun pt H5 F hpt s5 h5 hF => ?_⟩
    have sA:=s1.trans (s2.trans (s3.trans (s4.trans s5)))
    have t5:LT H5:=LTab.same hT sA
    have h25:=s5 _ _ h24
    have h35:=s5 _ _ h34
    have h45:=LQ.sm h4 s5
    walk_at "go"
    refine ⟨a,ns,8,rfl,sA.seq hS,by decide,fun c8 => ?_⟩
    walk_at "go"
    refine ⟨_,rfl,fun cg => ?_⟩
    walk_at "go"
    refine ⟨8,rfl,by decide,by decide,?_⟩
    have hSp:∀ s ∈ S,0 < s:=fun s hs => (hS2 s hs).1
    have hSm:∀ s ∈ S,s <= 100000:=fun s hs => by have:=hS2 s hs; omega
    refine r_forR (n:=8) (fun i σ G => ∃ (c:Int) (o7 o8 o9 o10 o11 o12:Option V),σ = [some (.ref a),some (.int r),some (.ref p2),some (.ref pu),some (.ref pb),some (.ref pt),some (.int c),o7,o8,o9,o10,o11,o12] /\ Kp tT H5 G /\ LT G) ⟨_,_,_,_,_,_,_,rfl,Kp.refl _ _,t5⟩ ?_ ?_
    . rintro i σ G hi ⟨c,o7,o8,o9,o10,o11,o12,rfl,kG,tG⟩
      have g2:=kT kG t5 h25 (fun _ z => by cases z)
      have g3:=kT kG t5 h35 (fun _ z => by cases z)
      have g5:=kT kG t5 h5 (fun _ z => by cases z)
      have g4:=LQ.tk h45 kG t5
      walk_at "go"
      refine r_lstK fun px hpx => ?_
      have sx:=Same.new (o:=.lst [V.int (c % 401),V.int (c % 40)]) hpx
      have gx:=upd_same (H:=G) (a:=px) (o:=.lst [V.int (c % 401),V.int (c % 40)])
      generalize L2.upd G px (.lst [V.int (c % 401),V.int (c % 40)]) = G1 at sx gx ⊢
      obtain ⟨w,hw,hw4⟩:∃ w:Nat,atI [V.int (c % 401),V.int (c % 40)] ((0 + (i:Int)) % 2) = some (V.int (w:Int)) /\ w <= 400:=by
        rcases (show (0 + (i:Int)) % 2 = 0 ∨ (0 + (i:Int)) % 2 = 1 by omega) with e | e
        . exact ⟨(c % 401).toNat,by rw [e]; show some (V.int (c % 401)) = _; rw [Int.toNat_of_nonneg (by omega)],by omega⟩
        . exact ⟨(c % 40).toNat,by rw [e]; show some (V.int (c % 40)) = _; rw [Int.toNat_of_nonneg (by omega)],by omega⟩
      have g31:=sx _ _ g3
      have u1:=hu.s1
      have u2:=hu.s2
      have u3:=hu.p1
      have u4:=hu.p2
      have hb:u.1 * w <= 2 ^ 60 * 400:=Int.mul_le_mul (Int.le_of_lt u1) (by omega) (by omega) (by decide)
      have hb0:0 <= u.1 * w:=Int.mul_nonneg (by omega) (by omega)
      walk_at "go"
      refine r_ixl gx hw ?_
      walk_at "go"
      refine ⟨_,_,rfl,u4,Sm.mono (n:=8000) (m:=100) (Sm.of (by omega) (by show u.1 * w < ((2 ^ 100:Nat):Int); omega)) (by decide),Sm.mono (n:=8000) (m:=100) (Sm.of (by omega) (by show u.2 < ((2 ^ 100:Nat):Int); omega)) (by decide),fun ptm hptm => ?_⟩
      have stm:=sx.trans (Same.new (o:=.tup [.int (lowT (u.1 * w) u.2),.int (lowB (u.1 * w) u.2)]) hptm)
      have gtm:=upd_same (H:=G1) (a:=ptm) (o:=.tup [.int (lowT (u.1 * w) u.2),.int (lowB (u.1 * w) u.2)])
      generalize L2.upd G1 ptm (.tup [.int (lowT (u.1 * w) u.2),.int (lowB (u.1 * w) u.2)]) = G2 at stm gtm ⊢
      have ftm:FxQ G2 (.ref ptm) (tmF u w):=⟨ptm,rfl,gtm⟩
      have g22:=stm _ _ g2
      have g32:=stm _ _ g3
      have g52:=stm _ _ g5
      have g42:=LQ.sm g4 stm
      obtain ⟨o,ho⟩:∃ o,F[w]? = some o:=⟨_,List.getElem?_eq_getElem (by rw [hF.1]; omega)⟩
      have hBo:=hF.2 _ _ ho
      walk_at "go"
      refine r_ixl g52 (v:=oV o) (atI_nat (by rw [List.getElem?_map,ho]; rfl)) ?_
      walk_at "go"
      cases o with
      | none =>
        refine r_noNn ?_
        obtain ⟨bv,hbv,pbv⟩:=g42
        walk_at "go"
        refine l_lst hbv fun ph hph => ?_
        have sh:=Same.new (o:=.lst bv) hph
        have gh:=upd_same (H:=G2) (a:=ph) (o:=.lst bv)
        generalize L2.upd G2 ph (.lst bv) = G3 at sh gh ⊢
        have qh:LQ FxQ G3 ph (S.map (tmF u)):=⟨bv,gh,Pd.imp pbv fun v f x => FxQ.same x sh⟩
        have qb:LQ FxQ G3 pb (S.map (tmF u)):=⟨bv,sh _ _ hbv,Pd.imp pbv fun v f x => FxQ.same x sh⟩
        have t3:=LTab.same tG (stm.trans sh)
        walk_at "go"
        refine ⟨ph,S,u,w,ptm,rfl,hu,qh,FxQ.same ftm sh,hSp,hSm,by omega,hS0,by omega,t3,fun hno G4 k4 t4 => ?_,fun L l' G4 hL _ _ _ _ => ?_⟩
        . have qh4:=LQ.tk qh k4 t3
          have qb4:=LQ.tk qb k4 t3
          walk_at "go"
          rw [if_pos (show (Str.ofString "none" == Str.ofString "none") = true by decide)]
          walk_at "go"
          refine n_fx qh4 qb4 ?_
          walk_at "go"
          refine r_neM1 (n_str ?_)
          rw [show (!(Str.ofString "none" == Str.ofString "none")) = false by decide]
          walk_at "go"
          exact ⟨_,_,_,_,_,_,_,rfl,(kG.trans (stm.trans sh).kp).trans k4,t4⟩
        . exact absurd hL (fun h => by cases h with
            | nil => exact hBo 0 isB_zero.1
            | cons _ _ _ d _ _ _ => have:=d.uniq hBo; cases this)
      | some kk =>
        refine r_noNI ?_
        walk_at "go"
        refine ⟨p2,S,pt,F,w,400,kk,rfl,g22,hSp,by omega,g52,hF,by omega,by decide,ho,fun pl L G3 hpl s3' h3' hL => ?_⟩
        have g33:=s3' _ _ g32
        walk_at "go"
        refine ⟨pu,u,pl,L,rfl,hu,g33,h3',fun s hs => hSm s (hL.mem s hs),by have:=hL.len; omega,fun pd G4 hpd s4' qd => ?_⟩
        have sB:=stm.trans (s3'.trans s4')
        obtain ⟨bv,hbv,pbv⟩:=LQ.sm g4 sB
        have ftm4:=FxQ.same ftm (s3'.trans s4')
        walk_at "go"
        refine l_lst hbv fun ph hph => ?_
        have sh:=Same.new (o:=.lst bv) hph
        have gh:=upd_same (H:=G4) (a:=ph) (o:=.lst bv)
        generalize L2.upd G4 ph (.lst bv) = G5 at sh gh ⊢
        have qh:LQ FxQ G5 ph (S.map (tmF u)):=⟨bv,gh,Pd.imp pbv fun v f x => FxQ.same x sh⟩
        have qb:LQ FxQ G5 pb (S.map (tmF u)):=⟨bv,sh _ _ hbv,Pd.imp pbv fun v f x => FxQ.same x sh⟩
        have qd5:=LQ.sm qd sh
        have t5':=LTab.same tG (sB.trans sh)
        walk_at "go"
        refine ⟨ph,S,u,w,ptm,rfl,hu,qh,FxQ.same ftm4 sh,hSp,hSm,by omega,hS0,by omega,t5',fun hno => absurd hBo.1 (hno kk),fun L2' pf G6 hL2 hpf k6 t6 qf => ?_⟩
        have eL:L2' = L:=hL2.uniq hL
        subst eL
        have qh6:=LQ.tk qh k6 t5'
        have qb6:=LQ.tk qb k6 t5'
        have qd6:=LQ.tk qd5 k6 t5'
        have ftm6:=FxQ.tk (FxQ.same ftm4 sh) k6 t5'
        walk_at "go"
        refine n_fx qf qd6 ?_
        walk_at "go"
        refine n_fx qh6 qb6 ?_
        walk_at "go"
        refine r_neM2 qd6.choose_spec.1 ?_
        obtain ⟨fv,hfv,pfv⟩:=qf
        have fvl:fv.length <= 400:=by have:=Paired.length pfv; have:=hL.len; rw [List.length_map] at *; omega
        walk_at "go"
        refine r_tupK fun p9 hp9 => ?_
        have s7:=Same.new (o:=.tup [.int 9,.int 1]) hp9
        generalize L2.upd G6 p9 (.tup [.int 9,.int 1]) = G7 at s7 ⊢
        walk_at "go"
        refine r_app (s7 _ _ hfv) (by omega) ?_
        have k8:Kp pf G7 (L2.upd G7 pf (.lst (fv ++ [V.ref p9]))):=Kp.upd
        have t8:LT (L2.upd G7 pf (.lst (fv ++ [V.ref p9]))):=LT.lst (LTab.same t6 s7) (s7 _ _ hfv)
        generalize L2.upd G7 pf (.lst (fv ++ [V.ref p9])) = G8 at k8 t8 ⊢
        have K8:Kp tT G5 G8:=fun b o nb e => k8 _ _ (ne_of_none e hpf) (s7 _ _ (k6 _ _ nb e))
        walk_at "go"
        refine ⟨pb,S,u,w,ptm,rfl,hu,LQ.tk qb K8 t5',FxQ.tk (FxQ.same ftm4 sh) K8 t5',hSp,hSm,by omega,hS0,by omega,t8,fun hno => absurd hBo.1 (hno kk),fun L3 l3 G9 hL3 hl3 k9 t9 q9 => ?_⟩
        have eL3:L3 = L2':=hL3.uniq hL
        subst eL3
        walk_at "go"
        refine n_fx q9 (LQ.tk (LQ.tk qd5 K8 t5') k9 t8) ?_
        walk_at "go"
        exact ⟨_,_,_,_,_,_,_,rfl,((kG.trans (sB.trans sh).kp).trans K8).trans k9,t9⟩
    . rintro σ G ⟨c,o7,o8,o9,o10,o11,o12,rfl,kG,tG⟩
      walk_at "go"
      refine r_tupK fun pz hpz => ?_
      have sz:=Same.new (o:=.tup [.int 0,.int 1]) hpz
      have gz:=upd_same (H:=G) (a:=pz) (o:=.tup [.int 0,.int 1])
      generalize L2.upd G pz (.tup [.int 0,.int 1]) = G1 at sz gz ⊢
      have e0:tmF u 0 = (0,1):=tm_zero hu
      walk_at "go"
      refine ⟨pb,S,u,0,pz,rfl,hu,LQ.sm (LQ.tk h45 kG t5) sz,⟨pz,rfl,by rw [e0]; exact gz⟩,hSp,hSm,by decide,hS0,by omega,LTab.same tG sz,fun hno => absurd isB_zero.1 (hno 0),fun L l' G2 hL hl' k2 t2 hq => ?_⟩
      have eL:L = []:=hL.uniq .nil
      subst eL
      obtain ⟨ws,hws,pws⟩:=hq
      cases pws
      walk_at "go"
      refine r_lstK fun pe hpe => ?_
      have se:=Same.new (o:=.lst []) hpe
      refine e_lst (ds:=[]) (es:=[]) ⟨l',[],rfl,se _ _ hws,rfl⟩ ⟨pe,[],rfl,upd_same,rfl⟩ (by decide) ?_
      exact q _
end
set_option maxHeartbeats 0 in
theorem all_mk {l:PySem.W.OpenLaw} {w:World} {K:PySem.W.Frag} {h:Heap} {mg:Str -> Option Value} {fa:Addr} (X:K.In h) (G:h.Ns mainGlobals mg) (hfa:mg "law" = some (.ref fa)) {f0:Addr} {oc0:Value} {od0 an0:Option Addr} {sl0:Array (Option Value)} {kV0 dc0 pm0 cd0 ct0:Value} {f1:Addr} {oc1:Value} {od1 an1:Option Addr} {sl1:Array (Option Value)} {kV1 dc1 pm1 cd1 ct1:Value} {f2:Addr} {oc2:Value} {od2 an2:Option Addr} {sl2:Array (Option Value)} {kV2 dc2 pm2 cd2 ct2:Value} {f3:Addr} {oc3:Value} {od3 an3:Option Addr} {sl3:Array (Option Value)} {kV3 dc3 pm3 cd3 ct3:Value} {f4:Addr} {oc4:Value} {od4 an4:Option Addr} {sl4:Array (Option Value)} {kV4 dc4 pm4 cd4 ct4:Value} {f5:Addr} {oc5:Value} {od5 an5:Option Addr} {sl5:Array (Option Value)} {kV5 dc5 pm5 cd5 ct5:Value} {f6:Addr} {oc6:Value} {od6 an6:Option Addr} {sl6:Array (Option Value)} {kV6 dc6 pm6 cd6 ct6:Value} {f7:Addr} {oc7:Value} {od7 an7:Option Addr} {sl7:Array (Option Value)} {kV7 dc7 pm7 cd7 ct7:Value} {f8:Addr} {oc8:Value} {od8 an8:Option Addr} {sl8:Array (Option Value)} {kV8 dc8 pm8 cd8 ct8:Value} {f9:Addr} {oc9:Value} {od9 an9:Option Addr} {sl9:Array (Option Value)} {kV9 dc9 pm9 cd9 ct9:Value} {f10:Addr} {oc10:Value} {od10 an10:Option Addr} {sl10:Array (Option Value)} {kV10 dc10 pm10 cd10 ct10:Value} {f11:Addr} {oc11:Value} {od11 an11:Option Addr} {sl11:Array (Option Value)} {kV11 dc11 pm11 cd11 ct11:Value} {f12:Addr} {oc12:Value} {od12 an12:Option Addr} {sl12:Array (Option Value)} {kV12 dc12 pm12 cd12 ct12:Value} {f13:Addr} {oc13:Value} {od13 an13:Option Addr} {sl13:Array (Option Value)} {kV13 dc13 pm13 cd13 ct13:Value} {f14:Addr} {oc14:Value} {od14 an14:Option Addr} {sl14:Array (Option Value)} {kV14 dc14 pm14 cd14 ct14:Value} {f15:Addr} {oc15:Value} {od15 an15:Option Addr} {sl15:Array (Option Value)} {kV15 dc15 pm15 cd15 ct15:Value} {f16:Addr} {oc16:Value} {od16 an16:Option Addr} {sl16:Array (Option Value)} {kV16 dc16 pm16 cd16 ct16:Value} {f17:Addr} {oc17:Value} {od17 an17:Option Addr} {sl17:Array (Option Value)} {kV17 dc17 pm17 cd17 ct17:Value} {f18:Addr} {oc18:Value} {od18 an18:Option Addr} {sl18:Array (Option Value)} {kV18 dc18 pm18 cd18 ct18:Value} {xt x1 x3 x4:Addr} {cd_NoSum:ClassData}
    (a0:PySem.W.nsIn K mainGlobals "common_divisor" = some (some (.ref f0))) (l0:K.lookup f0 = some ⟨oc0,od0,.func (PySem.W.fnOf "common_divisor" "common_divisor" (defArgs s_common_divisor) (defBody s_common_divisor) (defScope s_common_divisor) .none kV0 dc0 pm0 an0 cd0 ct0),sl0⟩) (c0:PySem.W.codeIn K cd0 "common_divisor" = true) (k0:PySem.W.keepIn K (.ref f0) = true)
    (a1:PySem.W.nsIn K mainGlobals "whole_tops" = some (some (.ref f1))) (l1:K.lookup f1 = some ⟨oc1,od1,.func (PySem.W.fnOf "whole_tops" "whole_tops" (defArgs s_whole_tops) (defBody s_whole_tops) (defScope s_whole_tops) .none kV1 dc1 pm1 an1 cd1 ct1),sl1⟩) (c1:PySem.W.codeIn K cd1 "whole_tops" = true) (k1:PySem.W.keepIn K (.ref f1) = true)
    (a2:PySem.W.nsIn K mainGlobals "sorted_by" = some (some (.ref f2))) (l2:K.lookup f2 = some ⟨oc2,od2,.func (PySem.W.fnOf "sorted_by" "sorted_by" (defArgs s_sorted_by) (defBody s_sorted_by) (defScope s_sorted_by) .none kV2 dc2 pm2 an2 cd2 ct2),sl2⟩) (c2:PySem.W.codeIn K cd2 "sorted_by" = true) (k2:PySem.W.keepIn K (.ref f2) = true) (tb2:PySem.W.codeHdIn K 79 77 = true) (tc2:cd2 = .ref 79)
    (a3:PySem.W.nsIn K mainGlobals "units_of" = some (some (.ref f3))) (l3:K.lookup f3 = some ⟨oc3,od3,.func (PySem.W.fnOf "units_of" "units_of" (defArgs s_units_of) (defBody s_units_of) (defScope s_units_of) .none kV3 dc3 pm3 an3 cd3 ct3),sl3⟩) (c3:PySem.W.codeIn K cd3 "units_of" = true) (k3:PySem.W.keepIn K (.ref f3) = true)
    (a4:PySem.W.nsIn K mainGlobals "fewest_parts" = some (some (.ref f4))) (l4:K.lookup f4 = some ⟨oc4,od4,.func (PySem.W.fnOf "fewest_parts" "fewest_parts" (defArgs s_fewest_parts) (defBody s_fewest_parts) (defScope s_fewest_parts) .none kV4 dc4 pm4 an4 cd4 ct4),sl4⟩) (c4:PySem.W.codeIn K cd4 "fewest_parts" = true) (k4:PySem.W.keepIn K (.ref f4) = true)
    (a5:PySem.W.nsIn K mainGlobals "first_part" = some (some (.ref f5))) (l5:K.lookup f5 = some ⟨oc5,od5,.func (PySem.W.fnOf "first_part" "first_part" (defArgs s_first_part) (defBody s_first_part) (defScope s_first_part) .none kV5 dc5 pm5 an5 cd5 ct5),sl5⟩) (c5:PySem.W.codeIn K cd5 "first_part" = true) (k5:PySem.W.keepIn K (.ref f5) = true)
    (a6:PySem.W.nsIn K mainGlobals "made_of" = some (some (.ref f6))) (l6:K.lookup f6 = some ⟨oc6,od6,.func (PySem.W.fnOf "made_of" "made_of" (defArgs s_made_of) (defBody s_made_of) (defScope s_made_of) .none kV6 dc6 pm6 an6 cd6 ct6),sl6⟩) (c6:PySem.W.codeIn K cd6 "made_of" = true) (k6:PySem.W.keepIn K (.ref f6) = true)
    (a7:PySem.W.nsIn K mainGlobals "_law_cell_at" = some (some (.ref f7))) (l7:K.lookup f7 = some ⟨oc7,od7,.func (PySem.W.fnOf "_law_cell_at" "_law_cell_at" (defArgs s_cell_at) (defBody s_cell_at) (defScope s_cell_at) .none kV7 dc7 pm7 an7 cd7 ct7),sl7⟩) (c7:PySem.W.codeIn K cd7 "_law_cell_at" = true) (k7:PySem.W.keepIn K (.ref f7) = true)
    (a8:PySem.W.nsIn K mainGlobals "_law_mixed" = some (some (.ref f8))) (l8:K.lookup f8 = some ⟨oc8,od8,.func (PySem.W.fnOf "_law_mixed" "_law_mixed" (defArgs s_mixed) (defBody s_mixed) (defScope s_mixed) .none kV8 dc8 pm8 an8 cd8 ct8),sl8⟩) (c8:PySem.W.codeIn K cd8 "_law_mixed" = true) (k8:PySem.W.keepIn K (.ref f8) = true)
    (a9:PySem.W.nsIn K mainGlobals "_law_great" = some (some (.ref f9))) (l9:K.lookup f9 = some ⟨oc9,od9,.func (PySem.W.fnOf "_law_great" "_law_great" (defArgs s_great) (defBody s_great) (defScope s_great) .none kV9 dc9 pm9 an9 cd9 ct9),sl9⟩) (c9:PySem.W.codeIn K cd9 "_law_great" = true) (k9:PySem.W.keepIn K (.ref f9) = true)
    (a10:PySem.W.nsIn K mainGlobals "_law_numbers" = some (some (.ref f10))) (l10:K.lookup f10 = some ⟨oc10,od10,.func (PySem.W.fnOf "_law_numbers" "_law_numbers" (defArgs s_numbers) (defBody s_numbers) (defScope s_numbers) .none kV10 dc10 pm10 an10 cd10 ct10),sl10⟩) (c10:PySem.W.codeIn K cd10 "_law_numbers" = true) (k10:PySem.W.keepIn K (.ref f10) = true)
    (a11:PySem.W.nsIn K mainGlobals "_law_lowest" = some (some (.ref f11))) (l11:K.lookup f11 = some ⟨oc11,od11,.func (PySem.W.fnOf "_law_lowest" "_law_lowest" (defArgs s_lowest) (defBody s_lowest) (defScope s_lowest) .none kV11 dc11 pm11 an11 cd11 ct11),sl11⟩) (c11:PySem.W.codeIn K cd11 "_law_lowest" = true) (k11:PySem.W.keepIn K (.ref f11) = true)
    (a12:PySem.W.nsIn K mainGlobals "_law_unit" = some (some (.ref f12))) (l12:K.lookup f12 = some ⟨oc12,od12,.func (PySem.W.fnOf "_law_unit" "_law_unit" (defArgs s_unit) (defBody s_unit) (defScope s_unit) .none kV12 dc12 pm12 an12 cd12 ct12),sl12⟩) (c12:PySem.W.codeIn K cd12 "_law_unit" = true) (k12:PySem.W.keepIn K (.ref f12) = true)
    (a13:PySem.W.nsIn K mainGlobals "_law_sizes" = some (some (.ref f13))) (l13:K.lookup f13 = some ⟨oc13,od13,.func (PySem.W.fnOf "_law_sizes" "_law_sizes" (defArgs s_sizes) (defBody s_sizes) (defScope s_sizes) .none kV13 dc13 pm13 an13 cd13 ct13),sl13⟩) (c13:PySem.W.codeIn K cd13 "_law_sizes" = true) (k13:PySem.W.keepIn K (.ref f13) = true)
    (a14:PySem.W.nsIn K mainGlobals "_law_times_of" = some (some (.ref f14))) (l14:K.lookup f14 = some ⟨oc14,od14,.func (PySem.W.fnOf "_law_times_of" "_law_times_of" (defArgs s_times_of) (defBody s_times_of) (defScope s_times_of) .none kV14 dc14 pm14 an14 cd14 ct14),sl14⟩) (c14:PySem.W.codeIn K cd14 "_law_times_of" = true) (k14:PySem.W.keepIn K (.ref f14) = true)
    (a15:PySem.W.nsIn K mainGlobals "_law_best" = some (some (.ref f15))) (l15:K.lookup f15 = some ⟨oc15,od15,.func (PySem.W.fnOf "_law_best" "_law_best" (defArgs s_best) (defBody s_best) (defScope s_best) .none kV15 dc15 pm15 an15 cd15 ct15),sl15⟩) (c15:PySem.W.codeIn K cd15 "_law_best" = true) (k15:PySem.W.keepIn K (.ref f15) = true)
    (a16:PySem.W.nsIn K mainGlobals "_law_list" = some (some (.ref f16))) (l16:K.lookup f16 = some ⟨oc16,od16,.func (PySem.W.fnOf "_law_list" "_law_list" (defArgs s_list) (defBody s_list) (defScope s_list) .none kV16 dc16 pm16 an16 cd16 ct16),sl16⟩) (c16:PySem.W.codeIn K cd16 "_law_list" = true) (k16:PySem.W.keepIn K (.ref f16) = true)
    (a17:PySem.W.nsIn K mainGlobals "_law_told" = some (some (.ref f17))) (l17:K.lookup f17 = some ⟨oc17,od17,.func (PySem.W.fnOf "_law_told" "_law_told" (defArgs s_told) (defBody s_told) (defScope s_told) .none kV17 dc17 pm17 an17 cd17 ct17),sl17⟩) (c17:PySem.W.codeIn K cd17 "_law_told" = true) (k17:PySem.W.keepIn K (.ref f17) = true)
    (a18:PySem.W.nsIn K mainGlobals "law" = some (some (.ref f18))) (l18:K.lookup f18 = some ⟨oc18,od18,.func (PySem.W.fnOf "law" "law" (defArgs s_law) (defBody s_law) (defScope s_law) .none kV18 dc18 pm18 an18 cd18 ct18),sl18⟩) (c18:PySem.W.codeIn K cd18 "law" = true) (k18:PySem.W.keepIn K (.ref f18) = true)
    (bT:PySem.W.nsIn K mainGlobals "TileError" = some (some (.ref xt))) (b1:PySem.W.nsIn K mainGlobals "NoNet" = some (some (.ref x1))) (b3:PySem.W.nsIn K mainGlobals "NoSum" = some (some (.ref x3))) (b4:PySem.W.nsIn K mainGlobals "TooMany" = some (some (.ref x4))) (zV:PySem.W.nsIn K mainGlobals "ValueError" = some none)
    (ga_NoSum:PySem.W.findIn K (.ref x3) "__getattribute__" = some (some (.builtin "BaseException.__getattribute__"))) (gt_NoSum:PySem.W.findIn K (.ref x3) "__getattr__" = some none) (ca_NoSum:PySem.W.findIn K (.ref x3) "__class__" = some (some (.builtin "object.__class__"))) (ob_NoSum:PySem.W.subIn K (.ref x3) (.type "object") = some true) (be_NoSum:PySem.W.subIn K (.ref x3) (.type "BaseException") = some true) (ic_NoSum:PySem.W.clsIn K x3 = some cd_NoSum) (ex_NoSum:PySem.W.excIn K x3 bmVE "ValueError.__new__" = true) (ve_NoSum:PySem.W.kitOne K (.ref x3) (.type "ValueError") = some true) (tt_NoSum:PySem.W.exmOne K (.ref x3) (.ref xt) = some true)
    (k1_NoSum:PySem.W.kitOne K (.ref x3) (.ref x1) = some (Nat.beq 1 3)) (k3_NoSum:PySem.W.kitOne K (.ref x3) (.ref x3) = some (Nat.beq 3 3)) (k4_NoSum:PySem.W.kitOne K (.ref x3) (.ref x4) = some (Nat.beq 4 3))
    (z_int:PySem.W.nsIn K mainGlobals "int" = some none)
    (z_bool:PySem.W.nsIn K mainGlobals "bool" = some none)
    (z_str:PySem.W.nsIn K mainGlobals "str" = some none)
    (z_list:PySem.W.nsIn K mainGlobals "list" = some none)
    (z_tuple:PySem.W.nsIn K mainGlobals "tuple" = some none)
    (z_dict:PySem.W.nsIn K mainGlobals "dict" = some none)
    (z_set:PySem.W.nsIn K mainGlobals "set" = some none)
    (z_range:PySem.W.nsIn K mainGlobals "range" = some none)
    (z_enumerate:PySem.W.nsIn K mainGlobals "enumerate" = some none)
    (z_zip:PySem.W.nsIn K mainGlobals "zip" = some none)
    (z_reversed:PySem.W.nsIn K mainGlobals "reversed" = some none)
    (z_len:PySem.W.nsIn K mainGlobals "len" = some none)
    (z_abs:PySem.W.nsIn K mainGlobals "abs" = some none)
    (z_max:PySem.W.nsIn K mainGlobals "max" = some none)
    (z_min:PySem.W.nsIn K mainGlobals "min" = some none)
    (z_isinstance:PySem.W.nsIn K mainGlobals "isinstance" = some none)
    (z_sorted:PySem.W.nsIn K mainGlobals "sorted" = some none)
    (z_all:PySem.W.nsIn K mainGlobals "all" = some none)
    (z_any:PySem.W.nsIn K mainGlobals "any" = some none)
    (z_sum:PySem.W.nsIn K mainGlobals "sum" = some none) :
    ∃ fd:FuncData,(∀ (s:Shared) (v:Value),BindsTo s fd ⟨[v],[]⟩ [("_law_script",v)]) /\ ∀ base:Heap,K.In base -> base.Ns mainGlobals mg -> BmAt mg base -> FnOk l.prog w K mg base CX0 6 fa fd ["_law_script"] (spLaw K):=by
  have e:=hfa.symm.trans (PySem.W.mg_of X G a18)
  cases e
  have T:Bl mg:=⟨PySem.W.mg_none_of X G z_int,PySem.W.mg_none_of X G z_bool,PySem.W.mg_none_of X G z_str,PySem.W.mg_none_of X G z_list,PySem.W.mg_none_of X G z_tuple,PySem.W.mg_none_of X G z_dict,PySem.W.mg_none_of X G z_set,PySem.W.mg_none_of X G z_range,PySem.W.mg_none_of X G z_enumerate,PySem.W.mg_none_of X G z_zip,PySem.W.mg_none_of X G z_reversed,PySem.W.mg_none_of X G z_len,PySem.W.mg_none_of X G z_abs,PySem.W.mg_none_of X G z_max,PySem.W.mg_none_of X G z_min,PySem.W.mg_none_of X G z_isinstance,PySem.W.mg_none_of X G z_sorted,PySem.W.mg_none_of X G z_all,PySem.W.mg_none_of X G z_any,PySem.W.mg_none_of X G z_sum⟩
  have W:XmS mg xt x1 x3 x4:=⟨PySem.W.mg_of X G bT,PySem.W.mg_of X G b1,PySem.W.mg_of X G b3,PySem.W.mg_of X G b4,PySem.W.mg_none_of X G zV⟩
  have R_NoSum:XrS K xt x1 x3 x4 x3 3:=⟨⟨ga_NoSum,gt_NoSum,ca_NoSum,ob_NoSum,be_NoSum,by rw [ic_NoSum]; rfl⟩,.ve ex_NoSum,ve_NoSum,tt_NoSum,k1_NoSum,k3_NoSum,k4_NoSum⟩
  have d_common_divisor:Df K mg "common_divisor" s_common_divisor ["one","other"]:=df_mk X G a0 l0 c0 k0 (el_2 fun _ _ => rfl)
  have d_whole_tops:Df K mg "whole_tops" s_whole_tops ["fractions"]:=df_mk X G a1 l1 c1 k1 (el_1 fun _ => rfl)
  subst tc2
  have d_sorted_by:DfC K mg "sorted_by" s_sorted_by ["fractions","things"] 79 77:=dfc_mk X G a2 l2 c2 k2 tb2 (el_2 fun _ _ => rfl)
  have d_units_of:Df K mg "units_of" s_units_of ["times"]:=df_mk X G a3 l3 c3 k3 (el_1 fun _ => rfl)
  have d_fewest_parts:Df K mg "fewest_parts" s_fewest_parts ["parts","last"]:=df_mk X G a4 l4 c4 k4 (el_2 fun _ _ => rfl)
  have d_first_part:Df K mg "first_part" s_first_part ["parts","fewest","left"]:=df_mk X G a5 l5 c5 k5 (el_3 fun _ _ _ => rfl)
  have d_made_of:Df K mg "made_of" s_made_of ["box","time"]:=df_mk X G a6 l6 c6 k6 (el_2 fun _ _ => rfl)
  have d_cell_at:Df K mg "_law_cell_at" s_cell_at ["_law_script","_law_k"]:=df_mk X G a7 l7 c7 k7 (el_2 fun _ _ => rfl)
  have d_mixed:Df K mg "_law_mixed" s_mixed ["_law_cell","_law_k"]:=df_mk X G a8 l8 c8 k8 (el_2 fun _ _ => rfl)
  have d_great:Df K mg "_law_great" s_great ["_law_cell"]:=df_mk X G a9 l9 c9 k9 (el_1 fun _ => rfl)
  have d_numbers:Df K mg "_law_numbers" s_numbers ["_law_script","_law_first","_law_many","_law_size"]:=df_mk X G a10 l10 c10 k10 (el_4 fun _ _ _ _ => rfl)
  have d_lowest:Df K mg "_law_lowest" s_lowest ["_law_top","_law_bottom"]:=df_mk X G a11 l11 c11 k11 (el_2 fun _ _ => rfl)
  have d_unit:Df K mg "_law_unit" s_unit ["_law_number"]:=df_mk X G a12 l12 c12 k12 (el_1 fun _ => rfl)
  have d_sizes:Df K mg "_law_sizes" s_sizes ["_law_numbers_here"]:=df_mk X G a13 l13 c13 k13 (el_1 fun _ => rfl)
  have d_times_of:Df K mg "_law_times_of" s_times_of ["_law_unit_here","_law_sizes_here"]:=df_mk X G a14 l14 c14 k14 (el_2 fun _ _ => rfl)
  have d_best:Df K mg "_law_best" s_best ["_law_sizes_here","_law_whole"]:=df_mk X G a15 l15 c15 k15 (el_2 fun _ _ => rfl)
  have d_list:Df K mg "_law_list" s_list ["_law_sizes_here","_law_best_here","_law_whole"]:=df_mk X G a16 l16 c16 k16 (el_3 fun _ _ _ => rfl)
  have d_told:Df K mg "_law_told" s_told ["_law_box","_law_time"]:=df_mk X G a17 l17 c17 k17 (el_2 fun _ _ => rfl)
  have FL:=fun_mk (st:=s_law) l18 c18 k18
  refine ⟨PySem.W.fnOf "law" "law" (defArgs s_law) (defBody s_law) (defScope s_law) .none kV18 dc18 pm18 an18 cd18 ct18,fun s v => .of_eq rfl,fun base _ _ BB => ?_⟩
  have o_common_divisor:Okf l.prog w K mg base 1 "common_divisor" ["one","other"]   spGcd:=ok_common_divisor (k:=0) T d_common_divisor W R_NoSum
  have o_whole_tops:Okf l.prog w K mg base 2 "whole_tops" ["fractions"]   spTops:=ok_whole_tops (k:=1) T d_whole_tops W R_NoSum (o_common_divisor.mono (by decide))
  have o_sorted_by:Okf l.prog w K mg base 3 "sorted_by" ["fractions","things"] (spSortedBy K):=ok_sorted_by (k:=2) T d_sorted_by BB W R_NoSum (o_whole_tops.mono (by decide))
  have o_units_of:Okf l.prog w K mg base 3 "units_of" ["times"]   spUnits:=ok_units_of (k:=2) T d_units_of W R_NoSum (o_common_divisor.mono (by decide)) (o_whole_tops.mono (by decide))
  have o_fewest_parts:Okf l.prog w K mg base 1 "fewest_parts" ["parts","last"]   spFewest:=ok_fewest_parts (k:=0) T d_fewest_parts W R_NoSum
  have o_first_part:Okf l.prog w K mg base 1 "first_part" ["parts","fewest","left"]   spFirst:=ok_first_part (k:=0) T d_first_part W R_NoSum
  have o_made_of:=ok_made_of (P:=l.prog) (w:=w) (base:=base) (k:=3) T d_made_of W R_NoSum (o_first_part.mono (by decide)) (o_fewest_parts.mono (by decide)) (o_units_of.mono (by decide)) (o_sorted_by.mono (by decide))
  have o_cell_at:Okf l.prog w K mg base 1 "_law_cell_at" ["_law_script","_law_k"]   (spCell K):=ok_cell_at (k:=0) T d_cell_at W R_NoSum
  have o_mixed:Okf l.prog w K mg base 1 "_law_mixed" ["_law_cell","_law_k"]   spMixed:=ok_mixed (k:=0) T d_mixed W R_NoSum
  have o_great:Okf l.prog w K mg base 2 "_law_great" ["_law_cell"]   spGreat:=ok_great (k:=1) T d_great W R_NoSum (o_mixed.mono (by decide))
  have o_numbers:Okf l.prog w K mg base 2 "_law_numbers" ["_law_script","_law_first","_law_many","_law_size"]   (spNumbers K):=ok_numbers (k:=1) T d_numbers W R_NoSum (o_cell_at.mono (by decide)) (o_mixed.mono (by decide))
  have o_lowest:Okf l.prog w K mg base 1 "_law_lowest" ["_law_top","_law_bottom"]   spLowest:=ok_lowest (k:=0) T d_lowest W R_NoSum
  have o_unit:Okf l.prog w K mg base 1 "_law_unit" ["_law_number"]   spUnit:=ok_unit (k:=0) T d_unit W R_NoSum
  have o_sizes:Okf l.prog w K mg base 1 "_law_sizes" ["_law_numbers_here"]   (spSizes K):=ok_sizes (k:=0) T d_sizes W R_NoSum
  have o_times_of:Okf l.prog w K mg base 2 "_law_times_of" ["_law_unit_here","_law_sizes_here"]   spTimes:=ok_times_of (k:=1) T d_times_of W R_NoSum (o_lowest.mono (by decide))
  have o_best:Okf l.prog w K mg base 1 "_law_best" ["_law_sizes_here","_law_whole"]   spBest:=ok_best (k:=0) T d_best W R_NoSum
  have o_list:Okf l.prog w K mg base 1 "_law_list" ["_law_sizes_here","_law_best_here","_law_whole"]   spList:=ok_list (k:=0) T d_list W R_NoSum
  have o_told:Okf l.prog w K mg base 5 "_law_told" ["_law_box","_law_time"]   (spTold61 K):=ok_told (k:=4) T d_told W R_NoSum (o_made_of.mono (by decide))
  exact ok_law (k:=5) T FL W R_NoSum (o_made_of.mono (by decide)) (o_told.mono (by decide)) (o_list.mono (by decide)) (o_times_of.mono (by decide)) (o_lowest.mono (by decide)) (o_cell_at.mono (by decide)) (o_great.mono (by decide)) (o_best.mono (by decide)) (o_unit.mono (by decide)) (o_numbers.mono (by decide)) (o_sizes.mono (by decide)) (o_mixed.mono (by decide))
theorem walk {l:PySem.W.OpenLaw} {q:Program} {loose:List Str} {XP:(Str -> Option Value) -> Heap -> Prop} {YP:World -> Heap -> Prop} {d:DefRec} {K:Params -> PySem.W.Frag} (hn:l.most = some 63) (hdf:d.params.defaults = [])
    (hY:∀ (w:World) (h:Heap),YP w h -> (K w.params).In h /\ h.get? 77 = some (PySem.W.tabObj #[])) (hC:∀ P,PySem.W.codeHdIn (K P) 79 77 = true) (hKT:∀ P,(K P).lookup 77 = none)
    (F:∀ (w:World) (mg:Str -> Option Value) (fa:Addr) (h:Heap),(K w.params).In h -> h.Ns mainGlobals mg -> mg d.name = some (.ref fa) ->
      ∃ fd:FuncData,(∀ (s:Shared) (u:Value),BindsTo s fd ⟨[u],[]⟩ [("_law_script",u)]) /\ ∀ base:Heap,(K w.params).In base -> base.Ns mainGlobals mg -> BmAt mg base -> FnOk l.prog w (K w.params) mg base CX0 6 fa fd ["_law_script"] (spLaw (K w.params))) :
    PySem.W.WalkO q loose XP YP l.row.toRowW d [] (fun f vs => PySem.call f vs) :=
  L2.walk_ofT (n:=63) (k:=6) (x:="_law_script") (CX:=fun _ => CX0) (sp:=fun w => spLaw (K w.params)) hn (by decide) hdf ⟨rfl,by decide,by decide⟩ hY hC hKT F (fun _ _ a ns hl hT hS => ⟨a,ns,rfl,hS,hl,.inl hT,fun _ => rfl⟩) fun _ _ _ _ _ z => z
open PySem.W in
theorem zwalk {q:Program} {loose:List Str} {XP:(Str -> Option Value) -> Heap -> Prop} {r:RowW} {d:DefRec} {kwd:List (Str×Expr)} {run:Value -> List Value -> Sem Value} {K:Params -> Frag} {as:List Addr} {n t:Nat} (e:∀ P:Params,as = List.map (fun x => x.fst) (K P))
    (W:WalkO q loose XP (kHook K as e).says r d kwd run):WalkX q loose XP (X.obsZ as) (X.valZ K n t) r d kwd run :=
  fun w s₀ s₁ mg mb G y a o pm cd doc dV kV ho hd hcd hD hmg hg args vals as' L hpre hlay hrd hwl hlo =>
    W w s₀ s₁ mg mb G ((kHook K as e).keeps w s₀.heap s₁.heap ((kHook K as e).of w s₀ (congrArg Prod.fst y)) L.keeps) a o pm cd doc dV kV ho hd hcd hD hmg hg args vals as' hpre hlay hrd hwl hlo
end Lw
open PySem PySem.W PyProof.Rows
set_option maxRecDepth 100000 in
set_option maxHeartbeats 0 in
theorem PySem.Challenge.cw_tilefall_k61_times_made_of_a_box_holds : PySem.Challenge.rw_tilefall_k61_times_made_of_a_box.Holds := by
  w_on; o_law; km_head; (case hw => w_witness2)
  k_fill
  refine Lw.walk (l := PySem.Challenge.rw_tilefall_k61_times_made_of_a_box) rfl rfl (fun w h Y => ⟨PySem.W.km_in_of Y, PySem.W.km_tabs_of Y 77 (by simp)⟩) (fun _ => by kernel_rfl) (fun _ => by kernel_rfl) ?F
  case F =>
    intro w mg fa h KX G hmg
    refine' Lw.all_mk KX G hmg ?a0 ?l0 ?c0 ?k0 ?a1 ?l1 ?c1 ?k1 ?a2 ?l2 ?c2 ?k2 ?tb2 ?tc2 ?a3 ?l3 ?c3 ?k3 ?a4 ?l4 ?c4 ?k4 ?a5 ?l5 ?c5 ?k5 ?a6 ?l6 ?c6 ?k6 ?a7 ?l7 ?c7 ?k7 ?a8 ?l8 ?c8 ?k8 ?a9 ?l9 ?c9 ?k9 ?a10 ?l10 ?c10 ?k10 ?a11 ?l11 ?c11 ?k11 ?a12 ?l12 ?c12 ?k12 ?a13 ?l13 ?c13 ?k13 ?a14 ?l14 ?c14 ?k14 ?a15 ?l15 ?c15 ?k15 ?a16 ?l16 ?c16 ?k16 ?a17 ?l17 ?c17 ?k17 ?a18 ?l18 ?c18 ?k18 ?bT ?b1 ?b3 ?b4 ?zV ?ga_NoSum ?gt_NoSum ?ca_NoSum ?ob_NoSum ?be_NoSum ?ic_NoSum ?ex_NoSum ?ve_NoSum ?tt_NoSum ?k1_NoSum ?k3_NoSum ?k4_NoSum   ?z_int ?z_bool ?z_str ?z_list ?z_tuple ?z_dict ?z_set ?z_range ?z_enumerate ?z_zip ?z_reversed ?z_len ?z_abs ?z_max ?z_min ?z_isinstance ?z_sorted ?z_all ?z_any ?z_sum
    (case a0 => k_is); (case l0 => k_is); (case c0 => k_is); (case k0 => k_is)
    (case a1 => k_is); (case l1 => k_is); (case c1 => k_is); (case k1 => k_is)
    (case a2 => k_is); (case l2 => k_is); (case c2 => k_is); (case k2 => k_is); (case tb2 => first | k_is | kernel_rfl); (case tc2 => exact rfl)
    (case a3 => k_is); (case l3 => k_is); (case c3 => k_is); (case k3 => k_is)
    (case a4 => k_is); (case l4 => k_is); (case c4 => k_is); (case k4 => k_is)
    (case a5 => k_is); (case l5 => k_is); (case c5 => k_is); (case k5 => k_is)
    (case a6 => k_is); (case l6 => k_is); (case c6 => k_is); (case k6 => k_is)
    (case a7 => k_is); (case l7 => k_is); (case c7 => k_is); (case k7 => k_is)
    (case a8 => k_is); (case l8 => k_is); (case c8 => k_is); (case k8 => k_is)
    (case a9 => k_is); (case l9 => k_is); (case c9 => k_is); (case k9 => k_is)
    (case a10 => k_is); (case l10 => k_is); (case c10 => k_is); (case k10 => k_is)
    (case a11 => k_is); (case l11 => k_is); (case c11 => k_is); (case k11 => k_is)
    (case a12 => k_is); (case l12 => k_is); (case c12 => k_is); (case k12 => k_is)
    (case a13 => k_is); (case l13 => k_is); (case c13 => k_is); (case k13 => k_is)
    (case a14 => k_is); (case l14 => k_is); (case c14 => k_is); (case k14 => k_is)
    (case a15 => k_is); (case l15 => k_is); (case c15 => k_is); (case k15 => k_is)
    (case a16 => k_is); (case l16 => k_is); (case c16 => k_is); (case k16 => k_is)
    (case a17 => k_is); (case l17 => k_is); (case c17 => k_is); (case k17 => k_is)
    (case a18 => k_is); (case l18 => k_is); (case c18 => k_is); (case k18 => k_is)
    (case bT => k_is)
    (case b1 => k_is)
    (case b3 => k_is)
    (case b4 => k_is)
    (case zV => k_is)
    (case ga_NoSum => k_is)
    (case gt_NoSum => k_is)
    (case ca_NoSum => k_is)
    (case ob_NoSum => k_is)
    (case be_NoSum => k_is)
    (case ic_NoSum => k_is)
    (case ex_NoSum => k_exc)
    (case ve_NoSum => kit_is)
    (case tt_NoSum => kts_exm)
    (case k1_NoSum => kit_is)
    (case k3_NoSum => kit_is)
    (case k4_NoSum => kit_is)
    (case z_int => k_is)
    (case z_bool => k_is)
    (case z_str => k_is)
    (case z_list => k_is)
    (case z_tuple => k_is)
    (case z_dict => k_is)
    (case z_set => k_is)
    (case z_range => k_is)
    (case z_enumerate => k_is)
    (case z_zip => k_is)
    (case z_reversed => k_is)
    (case z_len => k_is)
    (case z_abs => k_is)
    (case z_max => k_is)
    (case z_min => k_is)
    (case z_isinstance => k_is)
    (case z_sorted => k_is)
    (case z_all => k_is)
    (case z_any => k_is)
    (case z_sum => k_is)
#print axioms PySem.Challenge.cw_tilefall_k61_times_made_of_a_box_holds
