import PyProof.Rows.All
import Wide.All
import OpenK.AllK
import Wide.FinOn
import Lean
import PyProof.EqAt
import PyProof.EqKinds
import PyProof.TupleCall
import PyProof.NeKinds
import KE.KTryMore
import KE.RegKTryMore
import KE.RegKIsAll
import PyProof.ExcBaseAll.ValueError
import PyProof.ExcBaseAll.Exception
import PyProof.ExcAttrAll.ValueError
import PySem.Challenge.RW_tilefall_k73_rows_opened
set_option Elab.async false
set_option linter.all false
set_option maxRecDepth 100000
namespace L2
open PySem PySem.Spec PyProof.Rows
noncomputable abbrev Key:=Sum Int Str
noncomputable def keyIs:Key -> Value -> Bool
  | .inl k,v => Value.isInt k v
  | .inr x,v => Value.isStrOf x v
noncomputable def keyH (w:World):Key -> Int
  | .inl k => hashInt k
  | .inr x => hashStr w x
theorem keyIs_shape:∀ {k:Key} {v:Value},keyIs k v = true -> (∃ i t,k = Sum.inl i /\ v = Value.int i t) ∨ (∃ x t,k = Sum.inr x /\ v = Value.str x t)
  | .inl i,v,h => by
    obtain ⟨t,e⟩:=Value.isInt_shape (k:=i) (v:=v) h
    exact .inl ⟨i,t,rfl,e⟩
  | .inr x,v,h => by
    obtain ⟨t,e⟩:=Value.isStrOf_shape (x:=x) (v:=v) h
    exact .inr ⟨x,t,rfl,e⟩
theorem key_ll (a b:Int):decide ((Sum.inl a:Key) = Sum.inl b) = (a == b):=by
  by_cases e:a = b
  . subst e; simp
  . have h:¬ (Sum.inl a:Key) = Sum.inl b:=fun q => e (Sum.inl.inj q)
    rw [decide_eq_false h]
    exact (beq_eq_false_iff_ne.mpr e).symm
theorem key_rr (a b:Str):decide ((Sum.inr a:Key) = Sum.inr b) = decide (a = b):=by
  by_cases e:a = b
  . subst e; simp
  . have h:¬ (Sum.inr a:Key) = Sum.inr b:=fun q => e (Sum.inr.inj q)
    rw [decide_eq_false h,decide_eq_false e]
theorem key_lr (a:Int) (b:Str):decide ((Sum.inl a:Key) = Sum.inr b) = false:=decide_eq_false (fun q => nomatch q)
theorem key_rl (a:Str) (b:Int):decide ((Sum.inr a:Key) = Sum.inl b) = false:=decide_eq_false (fun q => nomatch q)
noncomputable def mixKind (prog:Program) (w:World):PySem.KeyKind prog w Key where
  is:=keyIs
  hash:=keyH w
  inj:=fun v a b ha hb => by
    rcases keyIs_shape ha with ⟨i,t,rfl,rfl⟩ | ⟨x,t,rfl,rfl⟩
    . rcases keyIs_shape hb with ⟨j,u,rfl,e⟩ | ⟨y,u,rfl,e⟩
      . injection e with e1 _; rw [e1]
      . exact nomatch e
    . rcases keyIs_shape hb with ⟨j,u,rfl,e⟩ | ⟨y,u,rfl,e⟩
      . exact nomatch e
      . injection e with e1 _; rw [e1]
  byValue:=fun k v h => by
    rcases keyIs_shape h with ⟨i,t,rfl,rfl⟩ | ⟨x,t,rfl,rfl⟩ <;> rfl
  pyHash:=fun hv h => by
    rcases keyIs_shape hv with ⟨i,t,rfl,rfl⟩ | ⟨x,t,rfl,rfl⟩
    . exact wpAny_pyHash_int h
    . exact wpAny_pyHash_str h
  eqBool:=fun hu hv h => by
    rcases keyIs_shape hu with ⟨i,t,rfl,rfl⟩ | ⟨x,t,rfl,rfl⟩
    . rcases keyIs_shape hv with ⟨j,u,rfl,rfl⟩ | ⟨y,u,rfl,rfl⟩
      . rw [key_ll] at h; exact wpAny_eqBool_int h
      . rw [key_lr] at h; exact SeqAt.EqAt.int_str i t y u _ _ _ _ h
    . rcases keyIs_shape hv with ⟨j,u,rfl,rfl⟩ | ⟨y,u,rfl,rfl⟩
      . rw [key_rl] at h; exact SeqAt.EqAt.str_int x t j u _ _ _ _ h
      . rw [key_rr] at h; exact wpAny_eqBool_str h
  «strs»:=fun k x t v h => by
    rcases keyIs_shape h with ⟨i,u,rfl,e⟩ | ⟨y,u,rfl,e⟩
    . exact nomatch e
    . injection e with e1 _
      subst e1
      cases v <;> rfl
end L2
namespace L2
open PySem PySem.Spec PyProof.Rows
inductive V where
  | non | bl (b:Bool) | int (i:Int) | str (x:Str) | byt (b:Array UInt8) | flt (b:UInt64) | ref (a:Addr) | ty (n:String)
  deriving DecidableEq
noncomputable def RelV:V -> Value -> Prop
  | .non,u => u = Value.none
  | .bl b,u => u = Value.bool b
  | .int i,u => ∃ t,u = Value.int i t
  | .str x,u => ∃ t,u = Value.str x t
  | .byt b,u => ∃ t,u = Value.bytes b t
  | .flt b,u => ∃ t,u = Value.float b t
  | .ref a,u => u = Value.ref a
  | .ty n,u => u = Value.type n
noncomputable abbrev Vals:List V -> List Value -> Prop:=Paired RelV
theorem Vals.length {xs:List V} {us:List Value} (r:Vals xs us):xs.length = us.length:=Paired.length r
theorem Vals.get:∀ {xs:List V} {us:List Value} {i:Nat} {x:V},Vals xs us -> xs[i]? = some x -> ∃ u,us[i]? = some u /\ RelV x u
  | _,_,_,_,.nil,e => by simp at e
  | _,_,0,_,.cons r _,e => by simp at e; subst e; exact ⟨_,rfl,r⟩
  | _,_,i + 1,x,.cons _ t,e => by
    obtain ⟨u,h1,h2⟩:=Vals.get (i:=i) (x:=x) t (by simpa using e)
    exact ⟨u,by simpa using h1,h2⟩
theorem Vals.set {x:V} {u:Value} (r:RelV x u):∀ {xs:List V} {us:List Value} (i:Nat),Vals xs us -> Vals (xs.set i x) (us.set i u)
  | _,_,_,.nil => .nil
  | _,_,0,.cons _ t => .cons r t
  | _,_,i + 1,.cons q t => .cons q (Vals.set r i t)
theorem Vals.append:∀ {xs ys:List V} {us ws:List Value},Vals xs us -> Vals ys ws -> Vals (xs ++ ys) (us ++ ws)
  | _,_,_,_,.nil,s => s
  | _,_,_,_,.cons r t,s => .cons r (Vals.append t s)
theorem Vals.take:∀ {xs:List V} {us:List Value} (n:Nat),Vals xs us -> Vals (xs.take n) (us.take n)
  | _,_,0,_ => .nil
  | _,_,_ + 1,.nil => .nil
  | _,_,n + 1,.cons r t => .cons r (Vals.take n t)
theorem Vals.drop:∀ {xs:List V} {us:List Value} (n:Nat),Vals xs us -> Vals (xs.drop n) (us.drop n)
  | _,_,0,r => r
  | _,_,_ + 1,.nil => .nil
  | _,_,n + 1,.cons _ t => Vals.drop n t
theorem Vals.none_of:∀ {xs:List V} {us:List Value} {i:Nat},Vals xs us -> xs[i]? = none -> us[i]? = none:=fun {xs us i} r e => by
  have h1:=r.length
  have h2:xs.length <= i:=List.getElem?_eq_none_iff.mp e
  exact List.getElem?_eq_none_iff.mpr (by omega)
noncomputable def RelO:Option V -> Option Value -> Prop
  | some v,some u => RelV v u
  | none,none => True
  | _,_ => False
noncomputable def KV {κ:Type}:List (κ×V) -> List (κ×Value) -> Prop:=Paired fun (p:κ×V) (q:κ×Value) => p.1 = q.1 /\ RelV p.2 q.2
noncomputable def kV:Key -> V
  | .inl i => .int i
  | .inr x => .str x
inductive HO where
    | lst (xs:List V)
    | tup (xs:List V)
    | dK (kvs:List (Key×V)) | dT (kvs:List (List Key×V))
    | set (S:Int -> Bool) (n:Nat)
    | ins (C dx:Addr) (fs:List (Str×V))
    | own (x:Addr)
    | xd (fs:List (Str×V))
    | met (f x:Addr)
    | rng (lo hi:Int)
    | frz (o:Obj) (u:HO)
    | tbl (ps:Array Value)
    | ext (φ:Heap -> Prop)
noncomputable abbrev Hp:=Addr -> Option HO
noncomputable def upd (H:Hp) (a:Addr) (o:HO):Hp:=fun b => if b = a then some o else H b
theorem upd_same {H:Hp} {a:Addr} {o:HO}:upd H a o a = some o:=by unfold upd; rw [if_pos rfl]
theorem upd_ne {H:Hp} {a b:Addr} {o:HO} (h:b ≠ a):upd H a o b = H b:=by unfold upd; rw [if_neg h]
theorem ne_of {H:Hp} {a b:Addr} {o u:HO} (h:H a = some o) (h':H b = some u) (d:o ≠ u):a ≠ b:=by
  intro e; subst e; rw [h] at h'; exact d (Option.some.inj h')
theorem ne_of_none {H:Hp} {a b:Addr} {o:HO} (h:H a = some o) (h':H b = none):a ≠ b:=by
  intro e; subst e; rw [h] at h'; cases h'
section
variable (P:Program) (w:World)
noncomputable def ObjOk (H:Hp) (h:Heap) (a:Addr):HO -> Prop
  | .lst xs => xs.length <= sizeLine /\ ∃ (its:List Value) (n:Nat),Vals xs its /\ h.get? a = some { cls:=.type "list",data:=.seq its.toArray n }
  | .tup xs => xs.length <= sizeLine /\ ∃ its:List Value,Vals xs its /\ IsTup h a its.toArray
  | .dK kvs => kvs.length <= sizeLine /\ (a == sysModules) = false /\ ∃ vs,KV kvs vs /\ h.DictOf (mixKind P w) a vs
  | .dT kvs => kvs.length <= sizeLine /\ (a == sysModules) = false /\ ∃ xs:List (List Key×Addr×Value),
      Paired (fun (p:List Key×V) (q:List Key×Addr×Value) => p.1 = q.1 /\ H q.2.1 = some (.tup (p.1.map kV)) /\ RelV p.2 q.2.2) kvs xs /\
      ∃ o es ep,h.get? a = some o /\ o.ExactDict /\ o.data = .dict es ep /\ es.toList = xs.map (entryOfKey (tupleKind (mixKind P w))) /\ (xs.map (·.1)).Nodup
  | .set S n => h.SetOf (intKind P w) a S n
  | .ins C dx fs => H dx = some (.own a) /\ fs.length <= 1000 /\ dx ≠ a /\ h.get? a = some (PySem.W.instObj C dx) /\
      ∃ mA,h.Ns1 dx mA /\ (∀ f,RelO (fs.lookup f) (mA f)) /\ PySem.Within mA (fs.map (·.1))
  | .own _ => ∃ o,h.get? a = some o
  | .xd fs => ∃ mA,h.Ns1 a mA /\ ∀ f,RelO (fs.lookup f) (mA f)
  | .rng lo hi => ∃ t u v,h.get? a = some { cls:=.type "range",data:=.fields #[.int lo t,.int hi u,.int 1 v] }
  | .frz o u => h.get? a = some o /\ ObjOk H h a u
  | .tbl ps => h.get? a = some { cls:=.none,data:=.fields ps }
  | .met f x => h.get? a = some (PySem.W.methodObj (.ref f) (.ref x))
  | .ext φ => φ h /\ (∃ o,h.get? a = some o) /\ ∀ h1 h2:Heap,φ h1 -> (∀ o,h1.get? a = some o -> h2.get? a = some o) -> φ h2
noncomputable def HOk (H:Hp) (h:Heap):Prop:=∀ a o,H a = some o -> ObjOk P w H h a o
end
section
variable {P:Program} {w:World} {H H':Hp} {h h':Heap} {a:Addr} {o:HO}
theorem ObjOk.lt (x:ObjOk P w H h a o):a < h.objs.size:=by
  cases o with
  | lst xs => obtain ⟨_,_,_,_,e⟩:=x; exact Heap.lt_size e
  | tup xs => obtain ⟨_,_,_,p⟩:=x; exact p.lt
  | dK kvs => obtain ⟨_,_,_,_,o,_,_,e,_⟩:=x; exact Heap.lt_size e
  | dT kvs => obtain ⟨_,_,_,_,o,_,_,e,_⟩:=x; exact Heap.lt_size e
  | set S n => obtain ⟨o,_,_,_,e,_⟩:=x; exact Heap.lt_size e
  | ins C dx fs => obtain ⟨_,_,_,e,_⟩:=x; exact Heap.lt_size e
  | own y => obtain ⟨_,e⟩:=x; exact Heap.lt_size e
  | xd fs => obtain ⟨_,⟨_,_,_,e,_⟩,_⟩:=x; exact Heap.lt_size e
  | rng lo hi => obtain ⟨_,_,_,e⟩:=x; exact Heap.lt_size e
  | frz ob u => obtain ⟨e,_⟩:=x; exact Heap.lt_size e
  | tbl ps => exact Heap.lt_size (show h.get? a = some _ from x)
  | met f y => exact Heap.lt_size (show h.get? a = some _ from x)
  | ext φ => obtain ⟨_,⟨_,e⟩,_⟩:=x; exact Heap.lt_size e
theorem Paired.mapP {α β:Type} {F G:α -> β -> Prop}:∀ {l₁:List α} {l₂:List β},Paired F l₁ l₂ -> (∀ a b,F a b -> G a b) -> Paired G l₁ l₂
  | _,_,.nil,_ => .nil
  | _,_,.cons r t,f => .cons (f _ _ r) (Paired.mapP t f)
theorem ObjOk.stay (x:ObjOk P w H h a o) (k:∀ b u,(b = a ∨ H b = some (.own a)) -> h.get? b = some u -> h'.get? b = some u)
    (ho:∀ b,H b = some (.own a) -> H' b = some (.own a)) (ht:∀ b xs,H b = some (.tup xs) -> H' b = some (.tup xs)):ObjOk P w H' h' a o:=by
  induction o with
  | lst xs => obtain ⟨z,its,n,r,e⟩:=x; exact ⟨z,its,n,r,k _ _ (.inl rfl) e⟩
  | tup xs => obtain ⟨z,its,r,ob,e,c⟩:=x; exact ⟨z,its,r,ob,k _ _ (.inl rfl) e,c⟩
  | dK kvs => obtain ⟨z,y,vs,r,ob,es,ep,e,c⟩:=x; exact ⟨z,y,vs,r,ob,es,ep,k _ _ (.inl rfl) e,c⟩
  | dT kvs =>
    obtain ⟨z,y,xs,r,ob,es,ep,e,c⟩:=x
    exact ⟨z,y,xs,Paired.mapP r fun p q z => ⟨z.1,ht _ _ z.2.1,z.2.2⟩,ob,es,ep,k _ _ (.inl rfl) e,c⟩
  | set S n => obtain ⟨ob,es,ep,t,e,c⟩:=x; exact ⟨ob,es,ep,t,k _ _ (.inl rfl) e,c⟩
  | ins C dx fs =>
    obtain ⟨d,z,ne,e,mA,⟨od,es,ep,e2,c⟩,r⟩:=x
    exact ⟨ho _ d,z,ne,k _ _ (.inl rfl) e,mA,⟨od,es,ep,k _ _ (.inr d) e2,c⟩,r⟩
  | own y => obtain ⟨ob,e⟩:=x; exact ⟨ob,k _ _ (.inl rfl) e⟩
  | xd fs => obtain ⟨mA,⟨od,es,ep,e,c⟩,r⟩:=x; exact ⟨mA,⟨od,es,ep,k _ _ (.inl rfl) e,c⟩,r⟩
  | rng lo hi => obtain ⟨t,u,v,e⟩:=x; exact ⟨t,u,v,k _ _ (.inl rfl) e⟩
  | frz ob u ih => obtain ⟨e,q⟩:=x; exact ⟨k _ _ (.inl rfl) e,ih q⟩
  | tbl ps =>
    have e:h.get? a = some { cls:=.none,data:=.fields ps }:=x
    show h'.get? a = some { cls:=.none,data:=.fields ps }
    exact k a _ (.inl rfl) e
  | met f y =>
    have e:h.get? a = some (PySem.W.methodObj (.ref f) (.ref y)):=x
    show h'.get? a = some (PySem.W.methodObj (.ref f) (.ref y))
    exact k a _ (.inl rfl) e
  | ext φ => obtain ⟨p,⟨o,e⟩,st⟩:=x; exact ⟨st _ _ p fun o q => k _ _ (.inl rfl) q,⟨o,k _ _ (.inl rfl) e⟩,st⟩
theorem HOk.lt (x:HOk P w H h) (e:H a = some o):a < h.objs.size:=(x a o e).lt
theorem HOk.fresh (x:HOk P w H h) (e:h.objs.size <= a):H a = none:=by
  cases q:H a with
  | none => rfl
  | some u => exact absurd (Nat.lt_of_lt_of_le (x.lt q) e) (Nat.lt_irrefl _)
theorem HOk.kept (x:HOk P w H h) (k:∀ b u,h.get? b = some u -> h'.get? b = some u):HOk P w H h':=fun a o e =>
  (x a o e).stay (fun b u _ q => k b u q) (fun _ q => q) fun _ _ q => q
theorem HOk.laid (x:HOk P w H h) (k:∀ b u,h.get? b = some u -> h'.get? b = some u) (hp:h.objs.size <= a) (new:ObjOk P w (upd H a o) h' a o):HOk P w (upd H a o) h':=fun b u e => by
  have hn:=x.fresh hp
  by_cases hb:b = a
  . subst hb; rw [upd_same] at e; cases e; exact new
  . rw [upd_ne hb] at e
    exact (x b u e).stay (fun c v _ q => k c v q) (fun c q => by rw [upd_ne (ne_of_none q hn)]; exact q) fun c xs q => by rw [upd_ne (ne_of_none q hn)]; exact q
end
noncomputable def Rd (H:Hp) (a:Addr) (u:HO):Prop:=H a = some u ∨ ∃ o,H a = some (.frz o u)
theorem Rd.of {H:Hp} {a:Addr} {u:HO} (h:H a = some u):Rd H a u:=.inl h
theorem Rd.ok {P:Program} {w:World} {H:Hp} {h:Heap} {a:Addr} {u:HO} (r:Rd H a u) (x:HOk P w H h):ObjOk P w H h a u:=by
  rcases r with r | ⟨o,r⟩
  . exact x a u r
  . obtain ⟨_,q⟩:=x a _ r
    exact q
noncomputable def Mut:Option HO -> Prop
  | some (.lst _) => True
  | some (.dK _) => True
  | some (.dT _) => True
  | some (.set _ _) => True
  | some (.ins _ _ _) => True
  | some (.ext _) => True
  | _ => False
section
variable {P:Program} {w:World} {H:Hp} {h h':Heap} {x e:Addr} {o':HO}
theorem HOk.write (ok:HOk P w H h) (mu:Mut (H x)) (he:e = x ∨ H e = some (.own x)) (k:∀ b u,b ≠ e -> h.get? b = some u -> h'.get? b = some u) (heo:∃ u,h'.get? e = some u)
    (new:ObjOk P w (upd H x o') h' x o'):HOk P w (upd H x o') h':=fun b u q => by
  have nown:∀ c y,H c = some (.own y) -> c ≠ x:=fun c y r z => by subst z; rw [r] at mu; exact mu
  have ntup:∀ c xs,H c = some (.tup xs) -> c ≠ x:=fun c xs r z => by subst z; rw [r] at mu; exact mu
  by_cases hb:b = x
  . subst hb; rw [upd_same] at q; cases q; exact new
  . rw [upd_ne hb] at q
    by_cases hbe:b = e
    . have q':H b = some (.own x):=by
        rcases he with z | z
        . exact absurd (hbe.trans z) hb
        . rw [hbe]; exact z
      rw [q] at q'; cases q'
      obtain ⟨v,hv⟩:=heo
      exact ⟨v,by rw [hbe]; exact hv⟩
    . refine (ok b u q).stay (fun c v hc r => k c v ?_ r) (fun c r => by rw [upd_ne (nown c b r)]; exact r) fun c xs r => by rw [upd_ne (ntup c xs r)]; exact r
      rcases hc with rfl | hc
      . exact hbe
      . rintro rfl
        rcases he with z | z
        . exact nown c b hc z
        . rw [hc] at z; cases z; exact hb rfl
end
structure Un (fs ex:List Addr) (H H':Hp) (h h':Heap):Prop where
  keep:∀ b o,h.get? b = some o -> H b = none -> b ∉ fs -> b ∉ ex -> h'.get? b = some o
  slot:∀ b o,h.get? b = some o -> H b = none -> b ∈ fs -> b ∉ ex -> ∃ sl,h'.get? b = some { o with slots:=sl }
  free:∀ b o,h.get? b = some o -> H b = none -> b ∉ ex -> H' b = none
  there:∀ b o,h.get? b = some o -> b ∉ ex -> ∃ o',h'.get? b = some o'
  tups:∀ b xs,H b = some (.tup xs) -> H' b = some (.tup xs)
  frzs:∀ b o u,H b = some (.frz o u) -> H' b = some (.frz o u)
  tbls:∀ b ps,H b = some (.tbl ps) -> ∃ more,H' b = some (.tbl (ps ++ more))
section
variable {fs fs' ex ex':List Addr} {H H1 H2:Hp} {h h1 h2 h':Heap} {a x e:Addr} {o:HO}
theorem Un.any (u:Un fs ex H H1 h h1) {b:Addr} {ob:Obj} (q:h.get? b = some ob) (n:H b = none) (hx:b ∉ ex):∃ sl,h1.get? b = some { ob with slots:=sl }:=by
  by_cases hb:b ∈ fs
  . exact u.slot b ob q n hb hx
  . exact ⟨ob.slots,u.keep b ob q n hb hx⟩
theorem Un.trans (a:Un fs ex H H1 h h1) (b:Un fs ex H1 H2 h1 h2):Un fs ex H H2 h h2 where
  keep:=fun c ob q n hc hx => b.keep c ob (a.keep c ob q n hc hx) (a.free c ob q n hx) hc hx
  slot:=fun c ob q n hc hx => by
    obtain ⟨sl,e1⟩:=a.slot c ob q n hc hx
    obtain ⟨sl',e2⟩:=b.slot c _ e1 (a.free c ob q n hx) hc hx
    exact ⟨sl',e2⟩
  free:=fun c ob q n hx => by
    obtain ⟨o',e1⟩:=a.there c ob q hx
    exact b.free c o' e1 (a.free c ob q n hx) hx
  there:=fun c ob q hx => by
    obtain ⟨o',e1⟩:=a.there c ob q hx
    exact b.there c o' e1 hx
  tups:=fun c xs q => b.tups c xs (a.tups c xs q)
  frzs:=fun c ob xs q => b.frzs c ob xs (a.frzs c ob xs q)
  tbls:=fun c ps q => by
    obtain ⟨m1,e1⟩:=a.tbls c ps q
    obtain ⟨m2,e2⟩:=b.tbls c _ e1
    exact ⟨m1 ++ m2,by rw [e2,Array.append_assoc]⟩
theorem Un.kept (k:∀ b u,h.get? b = some u -> h'.get? b = some u):Un fs ex H H h h' :=
  ⟨fun b ob q _ _ _ => k b ob q,fun b ob q _ _ _ => ⟨ob.slots,k b ob q⟩,fun _ _ _ n _ => n,fun b ob q _ => ⟨ob,k b ob q⟩,fun _ _ q => q,fun _ _ _ q => q,fun _ ps q => ⟨#[],by rw [q]; simp⟩⟩
theorem Un.refl:Un fs ex H H h h:=Un.kept fun _ _ q => q
theorem Un.laid (k:∀ b u,h.get? b = some u -> h'.get? b = some u) (hp:h.objs.size <= a) (hn:H a = none):Un fs ex H (upd H a o) h h' where
  keep:=fun b u q _ _ _ => k b u q
  slot:=fun b u q _ _ _ => ⟨u.slots,k b u q⟩
  free:=fun b u q n _ => by rw [upd_ne (Nat.ne_of_lt (Nat.lt_of_lt_of_le (Heap.lt_size q) hp))]; exact n
  there:=fun b u q _ => ⟨u,k b u q⟩
  tups:=fun b xs q => by rw [upd_ne (ne_of_none q hn)]; exact q
  frzs:=fun b u xs q => by rw [upd_ne (ne_of_none q hn)]; exact q
  tbls:=fun b ps q => ⟨#[],by rw [upd_ne (ne_of_none q hn),q]; simp⟩
theorem Un.write (mu:Mut (H x)) (he:e = x ∨ H e = some (.own x)) (k:∀ b u,b ≠ e -> h.get? b = some u -> h'.get? b = some u) (heo:∃ u,h'.get? e = some u):Un fs ex H (upd H x o) h h':=by
  have hx:∀ b,H b = none -> b ≠ x:=fun b n z => by subst z; rw [n] at mu; exact mu
  have hb:∀ b,H b = none -> b ≠ e:=fun b n z => by
    subst z
    rcases he with r | r
    . exact hx b n r
    . rw [n] at r; cases r
  have hm:∀ b u,H b = some u -> ¬ Mut (some u) -> b ≠ x:=fun b u q nm z => by subst z; rw [q] at mu; exact nm mu
  refine ⟨fun b u q n _ _ => k b u (hb b n) q,fun b u q n _ _ => ⟨u.slots,k b u (hb b n) q⟩,fun b u q n _ => by rw [upd_ne (hx b n)]; exact n,fun b u q _ => ?_,
    fun b xs q => by rw [upd_ne (hm b _ q fun z => z)]; exact q,fun b u xs q => by rw [upd_ne (hm b _ q fun z => z)]; exact q,fun b ps q => ⟨#[],by rw [upd_ne (hm b _ q fun z => z),q]; simp⟩⟩
  by_cases hbe:b = e
  . subst hbe; exact heo
  . exact ⟨u,k b u hbe q⟩
theorem Un.mono (u:Un fs ex H H1 h h1) (hs:∀ b ∈ fs,b ∈ fs') (hx:∀ b ∈ ex,b ∈ ex'):Un fs' ex' H H1 h h1 :=
  ⟨fun b ob q n hb he => u.keep b ob q n (fun z => hb (hs b z)) fun z => he (hx b z),fun _ _ q n _ he => u.any q n fun z => he (hx _ z),fun b ob q n he => u.free b ob q n fun z => he (hx b z),fun b ob q he => u.there b ob q fun z => he (hx b z),u.tups,u.frzs,u.tbls⟩
end
noncomputable def trk (h:Heap) (H:Hp):List Addr:=(List.range h.objs.size).filter fun a => (H a).isSome
noncomputable def hidT (h:Heap) (H:Hp):Heap:=PySem.W.hideAll h (trk h H)
theorem hidT_size (h:Heap) (H:Hp):(hidT h H).objs.size = h.objs.size:=PySem.W.hideAll_size _ _
theorem hidT_get {h:Heap} {H:Hp} {b:Addr} {o:Obj} (e:h.get? b = some o) (n:H b = none):(hidT h H).get? b = some o :=
  PySem.W.hideAll_get _ e fun hm => by
    have q:(H b).isSome = true:=(List.mem_filter.mp hm).2
    rw [n] at q; simp at q
theorem of_hidT {h:Heap} {H:Hp} {b:Addr} {o:Obj} (e:(hidT h H).get? b = some o):h.get? b = some o /\ H b = none:=by
  have e':h.get? b = some o:=PySem.W.of_hideAll (trk h H) e
  refine ⟨e',?_⟩
  cases q:H b with
  | none => rfl
  | some x =>
    have hm:b ∈ trk h H:=List.mem_filter.mpr ⟨List.mem_range.mpr (Heap.lt_size e'),by simp [q]⟩
    have z:(hidT h H).get? b = none:=PySem.W.hideAll_none (trk h H) hm
    rw [z] at e; cases e
noncomputable def allNews (g h:Heap) (L:Addr):List (Addr×Obj):=(List.range h.objs.size).filterMap fun a => if a = L ∨ (g.get? a).isSome = true then none else (h.get? a).map fun o => (a,o)
noncomputable def rest (g h:Heap) (L d:Addr):List (Addr×Obj):=(allNews g h L).filter fun p => decide (p.1 ≠ d)
end L2
namespace L2
open PySem PySem.Spec PyProof.Rows
structure Mod (K:PySem.W.Frag) (mg:Str -> Option Value) (base:Heap):Prop where
  kin:K.In base
  glob:base.Ns mainGlobals mg
  blt:∃ mb,base.Ns builtinsNs mb /\ ∀ x:Str,x ≠ "__name__" -> mb x = bootBuiltins x
  nolimit:base.NoLimit
set_option genInjectivity false in
set_option genSizeOfSpec false in
structure Cx where
  prog:Program
  w:World
  K:PySem.W.Frag
  mg:Str -> Option Value
  base:Heap
  A:Around
  N:List Str
  s₀:Shared
  H₀:Hp
  env:Env
  outer:List Env
  stack:List Env
  ex:List Addr
  fn:Str -> Bool
  calm:Bool
  pn:List (Addr×Obj)
  xe:Value -> Shared -> Prop
noncomputable def frs (l:List Env):List Addr:=l.filterMap (·.frame)
noncomputable abbrev Cx.fs (X:Cx):List Addr:=frs X.outer
noncomputable def Vis (sc:Scope) (x:Str):Prop:=sc.names.lookup x = some .local ∨ sc.names.lookup x = some .cell ∨ sc.names.lookup x = some .free
noncomputable def Loc (sc:Scope) (x:Str):Prop:=sc.names.lookup x = some .local ∨ sc.names.lookup x = some .cell
noncomputable def Look (env:Env) (h:Heap) (m:Str -> Option Value) (x:Str) (u:Value):Prop :=
  (env.kindOf x = some .local /\ m x = some u) ∨ ((env.kindOf x = some .cell ∨ env.kindOf x = some .free) /\ ∃ c,env.cells.lookup x = some c /\ h.IsCell c (some u))
structure Cx.Ok (X:Cx):Prop where
  mod:Mod X.K X.mg X.base
  kind:X.env.scope.kind = .function
  glob:X.env.globals = mainGlobals
  blt:X.env.builtins = builtinsNs
  above:X.s₀.heap.objs.size <= X.env.locals
  inj:∀ x y c,X.env.cells.lookup x = some c -> X.env.cells.lookup y = some c -> x = y
  has:∀ x,(X.env.kindOf x = some .cell ∨ X.env.kindOf x = some .free) -> ∃ c,X.env.cells.lookup x = some c
  cab:∀ x c,X.fn x = true -> X.env.cells.lookup x = some c -> X.s₀.heap.objs.size <= c
  hd:X.calm = true -> X.A.handled = none
  frames:X.A.frames = some X.stack
  stk:X.stack = X.outer ∨ (X.stack = X.env :: X.outer /\ X.env.frame = some X.env.locals)
  exf:∀ b ∈ X.ex,b ≠ X.env.locals /\ ∀ x c,X.env.cells.lookup x = some c -> c ≠ b
  bs:∀ b o,X.base.get? b = some o -> X.s₀.heap.get? b = some o /\ X.H₀ b = none
  bsz:X.base.objs.size <= X.s₀.heap.objs.size
  noex:∀ b o,X.base.get? b = some o -> b ∉ X.ex
  exfs:∀ b ∈ X.ex,b ∉ X.fs
  funs:X.s₀.heap.FunFrames X.base X.outer
  frf:∀ b ∈ X.fs,X.H₀ b = none
structure Inv (X:Cx) (pins:List (Addr×Obj)) (σ:List (Option V)) (H:Hp) (s:Shared):Prop where
  ok:X.Ok
  os:s.os = X.s₀.os
  bare:AllBare s.gens
  base:Un X.fs X.ex X.H₀ H X.s₀.heap s.heap
  loc:∃ m,s.heap.Ns X.env.locals m /\ ∀ (i:Nat) (x:Str) (v:V),X.N[i]? = some x -> σ[i]? = some (some v) -> Vis X.env.scope x -> ∃ u,RelV v u /\ Look X.env s.heap m x u
  cell:∀ x c,X.env.cells.lookup x = some c -> ∃ v,s.heap.IsCell c v
  free:H X.env.locals = none
  freeC:∀ x c,X.env.cells.lookup x = some c -> H c = none
  pin:∀ p ∈ X.pn ++ pins,s.heap.get? p.1 = some p.2 /\ H p.1 = none /\ p.1 ≠ X.env.locals /\ p.1 ∉ X.fs /\ ∀ v,p.2.data ≠ .cell v
  hok:HOk X.prog X.w H s.heap
  len:σ.length = X.N.length
section
variable {X:Cx} {pins:List (Addr×Obj)} {σ:List (Option V)} {H H':Hp} {s:Shared} {h':Heap}
theorem Cx.Ok.nofr (ok:X.Ok) {b:Addr} {o:Obj} (e:X.base.get? b = some o):b ∉ X.fs:=fun hb => by
  have:=(ok.funs.mem hb).1
  rw [e] at this; cases this
theorem Inv.bs (I:Inv X pins σ H s):∀ b o,X.base.get? b = some o -> s.heap.get? b = some o /\ H b = none:=fun b o e =>
  ⟨I.base.keep b o (I.ok.bs b o e).1 (I.ok.bs b o e).2 (I.ok.nofr e) (I.ok.noex b o e),I.base.free b o (I.ok.bs b o e).1 (I.ok.bs b o e).2 (I.ok.noex b o e)⟩
theorem Inv.bk (I:Inv X pins σ H s):∀ b o,X.base.get? b = some o -> s.heap.get? b = some o:=fun b o e => (I.bs b o e).1
theorem Inv.mod (I:Inv X pins σ H s):Mod X.K X.mg X.base:=I.ok.mod
theorem Inv.kIn (I:Inv X pins σ H s):X.K.In s.heap:=I.ok.mod.kin.keeps I.bk
theorem Inv.nolimit (I:Inv X pins σ H s):s.heap.NoLimit:=I.ok.mod.nolimit.keeps I.bk
theorem Inv.fr (I:Inv X pins σ H s):∃ m,Fr X.base X.env.locals s.heap m :=
  let ⟨m,hn,_⟩:=I.loc
  ⟨m,hn,I.bk,Nat.le_trans I.ok.bsz I.ok.above⟩
theorem Inv.lt (I:Inv X pins σ H s):X.env.locals < s.heap.objs.size:=let ⟨_,hn,_⟩:=I.loc; hn.lt
theorem Inv.sz (I:Inv X pins σ H s):X.s₀.heap.objs.size <= s.heap.objs.size:=Nat.le_trans I.ok.above (Nat.le_of_lt I.lt)
theorem Inv.nofs (I:Inv X pins σ H s) {a:Addr} (h:s.heap.objs.size <= a):a ∉ X.fs:=fun hb => by
  obtain ⟨_,o,ho,_⟩:=I.ok.funs.mem hb
  exact absurd (Nat.lt_of_lt_of_le (Heap.lt_size ho) (Nat.le_trans I.sz h)) (Nat.lt_irrefl _)
theorem Inv.cne (I:Inv X pins σ H s):∀ x c,X.env.cells.lookup x = some c -> c ≠ X.env.locals:=fun x c e z => by
  obtain ⟨v,o,ho,hd⟩:=I.cell x c e
  obtain ⟨m,⟨o',es,ep,ho',hd',_⟩,_⟩:=I.loc
  rw [z,ho'] at ho; cases ho; rw [hd'] at hd; cases hd
theorem Inv.funs (I:Inv X pins σ H s):s.heap.FunFrames X.base X.outer:=by
  have all:∀ (l:List Env),(∀ b ∈ frs l,b ∈ X.fs) -> X.s₀.heap.FunFrames X.base l -> s.heap.FunFrames X.base l:=by
    intro l
    induction l with
    | nil => intro _ _; trivial
    | cons env r ih =>
      intro hs hl
      obtain ⟨hk,⟨L,o,hf,hn,ho,hd⟩,hr⟩:=hl
      have hL:L ∈ X.fs:=hs L (by unfold frs; rw [List.filterMap_cons,hf]; exact List.mem_cons_self)
      obtain ⟨sl,e⟩:=I.base.slot L o ho (I.ok.frf L hL) hL fun z => I.ok.exfs L z hL
      exact ⟨hk,⟨L,_,hf,hn,e,hd⟩,ih (fun b hb => hs b (by unfold frs; rw [List.filterMap_cons,hf]; exact List.mem_cons_of_mem _ hb)) hr⟩
  exact all X.outer (fun _ hb => hb) I.ok.funs
theorem Inv.stack (I:Inv X pins σ H s):s.heap.FunFrames X.base X.stack:=by
  rcases I.ok.stk with e | ⟨e,hf⟩
  . rw [e]; exact I.funs
  . rw [e]
    obtain ⟨m,hn,_⟩:=I.loc
    refine .cons (by rw [I.ok.kind]; decide) hf hn ?_ I.funs
    exact Heap.get?_none_of_le (Nat.le_trans I.ok.bsz I.ok.above)
theorem Inv.stkSub (I:Inv X pins σ H s):∀ b ∈ frs X.stack,b ∈ X.env.locals :: X.fs:=fun b hb => by
  rcases I.ok.stk with e | ⟨e,hf⟩
  . rw [e] at hb; exact List.mem_cons_of_mem _ hb
  . rw [e] at hb
    unfold frs at hb
    rw [List.filterMap_cons,hf] at hb
    exact hb
theorem Inv.stkFree (I:Inv X pins σ H s):∀ b ∈ frs X.stack,H b = none:=fun b hb => by
  rcases List.mem_cons.mp (I.stkSub b hb) with e | hb
  . rw [e]; exact I.free
  . obtain ⟨_,o,ho,_⟩:=I.ok.funs.mem hb
    exact I.base.free b o ho (I.ok.frf b hb) fun z => I.ok.exfs b z hb
theorem Inv.step {g':Array GenState} {t':Nat} {d':Drawn} {ch:List Addr} (I:Inv X pins σ H s)
    (hch:∀ b ∈ ch,(b ∈ X.ex ∨ X.s₀.heap.objs.size <= b) /\ b ≠ X.env.locals /\ (∀ x c,X.env.cells.lookup x = some c -> c ≠ b) /\ ∀ p ∈ X.pn ++ pins,p.1 ≠ b)
    (keep:∀ b o,b ≠ X.env.locals -> b ∉ X.fs -> b ∉ ch -> s.heap.get? b = some o -> H b = none -> h'.get? b = some o)
    (slot:∀ b o,b ≠ X.env.locals -> b ∈ X.fs -> b ∉ ch -> s.heap.get? b = some o -> H b = none -> ∃ sl,h'.get? b = some { o with slots:=sl }) (free:∀ b o,b ∉ ch -> s.heap.get? b = some o -> H b = none -> H' b = none)
    (there:∀ b o,b ∉ ch -> s.heap.get? b = some o -> ∃ o',h'.get? b = some o')
    (tups:∀ b xs,H b = some (.tup xs) -> H' b = some (.tup xs)) (frzs:∀ b o u,H b = some (.frz o u) -> H' b = some (.frz o u)) (tbls:∀ b ps,H b = some (.tbl ps) -> ∃ more,H' b = some (.tbl (ps ++ more)))
    (ns:∀ m,s.heap.Ns X.env.locals m -> h'.Ns X.env.locals m) (hok:HOk X.prog X.w H' h') (hg:AllBare g') :
    Inv X pins σ H' { s with heap:=h',gens:=g',drawn:=d',toks:=t' }:=by
  have neL:∀ b o,X.s₀.heap.get? b = some o -> b ≠ X.env.locals:=fun b o e => Nat.ne_of_lt (Nat.lt_of_lt_of_le (Heap.lt_size e) I.ok.above)
  have neC:∀ b o,X.s₀.heap.get? b = some o -> b ∉ X.ex -> b ∉ ch:=fun b o e hx hb => by
    rcases (hch b hb).1 with z | z
    . exact hx z
    . exact absurd (Nat.lt_of_lt_of_le (Heap.lt_size e) z) (Nat.lt_irrefl _)
  have cellK:∀ x c,X.env.cells.lookup x = some c -> ∀ v,s.heap.IsCell c v -> h'.IsCell c v:=fun x c e v ⟨o,ho,hd⟩ => by
    have nch:c ∉ ch:=fun z => (hch c z).2.2.1 x c e rfl
    by_cases hc:c ∈ X.fs
    . obtain ⟨sl,q⟩:=slot c o (I.cne x c e) hc nch ho (I.freeC x c e)
      exact ⟨_,q,hd⟩
    . exact ⟨o,keep c o (I.cne x c e) hc nch ho (I.freeC x c e),hd⟩
  refine ⟨I.ok,I.os,hg,⟨fun b o e n hb hx => ?_,fun b o e n hb hx => ?_,fun b o e n hx => ?_,fun b o e hx => ?_,fun b xs e => tups b xs (I.base.tups b xs e),fun b o xs e => frzs b o xs (I.base.frzs b o xs e),fun b ps e => ?_⟩,?_,fun x c e => ?_,?_,fun x c e => ?_,fun p hp => ?_,hok,I.len⟩
  . exact keep b o (neL b o e) hb (neC b o e hx) (I.base.keep b o e n hb hx) (I.base.free b o e n hx)
  . obtain ⟨sl,e1⟩:=I.base.slot b o e n hb hx
    obtain ⟨sl',e2⟩:=slot b _ (neL b o e) hb (neC b o e hx) e1 (I.base.free b o e n hx)
    exact ⟨sl',e2⟩
  . obtain ⟨o',e1⟩:=I.base.there b o e hx
    exact free b o' (neC b o e hx) e1 (I.base.free b o e n hx)
  . obtain ⟨o',e1⟩:=I.base.there b o e hx
    exact there b o' (neC b o e hx) e1
  . obtain ⟨m1,e1⟩:=I.base.tbls b ps e
    obtain ⟨m2,e2⟩:=tbls b _ e1
    exact ⟨m1 ++ m2,by rw [e2,Array.append_assoc]⟩
  . obtain ⟨m,hn,hl⟩:=I.loc
    refine ⟨m,ns m hn,fun i x v e1 e2 e3 => ?_⟩
    obtain ⟨u,r,l⟩:=hl i x v e1 e2 e3
    refine ⟨u,r,?_⟩
    rcases l with l | ⟨k,c,e,z⟩
    . exact .inl l
    . exact .inr ⟨k,c,e,cellK x c e _ z⟩
  . obtain ⟨v,z⟩:=I.cell x c e
    exact ⟨v,cellK x c e v z⟩
  . obtain ⟨m,⟨o,_,_,ho,_⟩,_⟩:=I.loc
    exact free _ o (fun z => (hch _ z).2.1 rfl) ho I.free
  . obtain ⟨v,o,ho,hd⟩:=I.cell x c e
    exact free c o (fun z => (hch c z).2.2.1 x c e rfl) ho (I.freeC x c e)
  . obtain ⟨e,n,ne,nf,d⟩:=I.pin p hp
    have nch:p.1 ∉ ch:=fun z => (hch p.1 z).2.2.2 p hp rfl
    exact ⟨keep p.1 p.2 ne nf nch e n,free p.1 p.2 nch e n,ne,nf,d⟩
theorem Inv.un {t':Nat} (I:Inv X pins σ H s) (u:Un X.fs [] H H' s.heap h') (hok:HOk X.prog X.w H' h'):Inv X pins σ H' { s with heap:=h',toks:=t' }:=by
  obtain ⟨m,⟨o,es,ep,ho,r⟩,_⟩:=id I.loc
  obtain ⟨sl,hL⟩:=u.any ho I.free (by simp)
  exact I.step (g':=s.gens) (d':=s.drawn) (ch:=[]) (fun _ z => nomatch z) (fun b o _ hb _ e n => u.keep b o e n hb (by simp)) (fun b o _ hb _ e n => u.slot b o e n hb (by simp)) (fun b o _ e n => u.free b o e n (by simp)) (fun b o _ e => u.there b o e (by simp)) u.tups u.frzs u.tbls (fun m' hm => by
    obtain ⟨o',es',ep',ho',r'⟩:=hm
    rw [ho] at ho'; cases ho'
    exact ⟨_,es',ep',hL,r'⟩) hok I.bare
theorem Inv.call {g':Array GenState} {t':Nat} {d':Drawn} {ch:List Addr} (I:Inv X pins σ H s) (u:Un (frs X.stack) ch H H' s.heap h') (hok:HOk X.prog X.w H' h') (hg:AllBare g')
    (hch:∀ b ∈ ch,(b ∈ X.ex ∨ X.s₀.heap.objs.size <= b) /\ b ≠ X.env.locals /\ (∀ x c,X.env.cells.lookup x = some c -> c ≠ b) /\ ∀ p ∈ X.pn ++ pins,p.1 ≠ b) :
    Inv X pins σ H' { s with heap:=h',gens:=g',drawn:=d',toks:=t' }:=by
  obtain ⟨m,⟨o,es,ep,ho,r⟩,_⟩:=id I.loc
  obtain ⟨sl,hL⟩:=u.any ho I.free fun z => (hch _ z).2.1 rfl
  exact I.step (ch:=ch) hch (fun b o hL hb hc e n => u.keep b o e n (fun z => (List.mem_cons.mp (I.stkSub b z)).elim hL hb) hc) (fun b o _ _ hc e n => u.any e n hc) (fun b o hc e n => u.free b o e n hc) (fun b o hc e => u.there b o e hc) u.tups u.frzs u.tbls (fun m' hm => by
    obtain ⟨o',es',ep',ho',r'⟩:=hm
    rw [ho] at ho'; cases ho'
    exact ⟨_,es',ep',hL,r'⟩) hok hg
theorem Inv.turned {t':Nat} {it:Addr} (I:Inv X pins σ H s) (k:∀ b o,b ≠ it -> s.heap.get? b = some o -> h'.get? b = some o) (hn:H it = none) (hL:it ≠ X.env.locals)
    (h1:it ∈ X.ex ∨ X.s₀.heap.objs.size <= it) (h2:∀ x c,X.env.cells.lookup x = some c -> c ≠ it) (h3:∀ p ∈ X.pn ++ pins,p.1 ≠ it):Inv X pins σ H { s with heap:=h',toks:=t' }:=by
  have nit:∀ b u,H b = some u -> b ≠ it:=fun b u e z => by rw [z,hn] at e; cases e
  refine I.step (g':=s.gens) (d':=s.drawn) (ch:=[it]) (fun b hb => ?_) (fun b o _ _ hc e _ => k b o (fun z => hc (by simp [z])) e) (fun b o _ _ hc e _ => ⟨o.slots,k b o (fun z => hc (by simp [z])) e⟩) (fun _ _ _ _ n => n)
    (fun b o hc e => ⟨o,k b o (fun z => hc (by simp [z])) e⟩) (fun _ _ e => e) (fun _ _ _ e => e) (fun b ps e => ⟨#[],by rw [e]; simp⟩) (fun m hm => ?_) (fun b u e => ?_) I.bare
  . have e:b = it:=by simpa using hb
    subst e
    exact ⟨h1,hL,h2,h3⟩
  . obtain ⟨o,es,ep,ho,r⟩:=hm
    exact ⟨o,es,ep,k _ o (Ne.symm hL) ho,r⟩
  . refine (I.hok b u e).stay (fun c v hc q => k c v ?_ q) (fun _ q => q) fun _ _ q => q
    rcases hc with z | z
    . rw [z]; exact nit b u e
    . exact nit c _ z
theorem Inv.tok (I:Inv X pins σ H s) (t:Nat):Inv X pins σ H { s with toks:=t }:=I.un (h':=s.heap) (t':=t) Un.refl I.hok
theorem Inv.kept {t':Nat} (I:Inv X pins σ H s) (k:∀ b u,s.heap.get? b = some u -> h'.get? b = some u):Inv X pins σ H { s with heap:=h',toks:=t' }:=I.un (Un.kept k) (I.hok.kept k)
theorem Inv.laid {a:Addr} {o:HO} {t':Nat} (I:Inv X pins σ H s) (k:∀ b u,s.heap.get? b = some u -> h'.get? b = some u) (hp:s.heap.objs.size <= a) (new:ObjOk X.prog X.w (upd H a o) h' a o) :
    Inv X pins σ (upd H a o) { s with heap:=h',toks:=t' }:=I.un (Un.laid k hp (I.hok.fresh hp)) (I.hok.laid k hp new)
theorem Inv.write {x e:Addr} {o:HO} {t':Nat} (I:Inv X pins σ H s) (mu:Mut (H x)) (he:e = x ∨ H e = some (.own x)) (k:∀ b u,b ≠ e -> s.heap.get? b = some u -> h'.get? b = some u) (heo:∃ u,h'.get? e = some u)
    (new:ObjOk X.prog X.w (upd H x o) h' x o):Inv X pins σ (upd H x o) { s with heap:=h',toks:=t' }:=I.un (Un.write mu he k heo) (I.hok.write mu he k heo new)
theorem Inv.pins_of {pins':List (Addr×Obj)} (I:Inv X pins σ H s) (h:∀ p ∈ pins',s.heap.get? p.1 = some p.2 /\ H p.1 = none /\ p.1 ≠ X.env.locals /\ p.1 ∉ X.fs /\ ∀ v,p.2.data ≠ .cell v):Inv X pins' σ H s :=
  ⟨I.ok,I.os,I.bare,I.base,I.loc,I.cell,I.free,I.freeC,fun p hp => (List.mem_append.mp hp).elim (fun z => I.pin p (List.mem_append_left _ z)) (h p),I.hok,I.len⟩
theorem nodup_ix {N:List Str} (hN:N.Nodup) {i j:Nat} {x:Str} (a:N[i]? = some x) (b:N[j]? = some x):i = j:=by
  obtain ⟨h1,e1⟩:=List.getElem?_eq_some_iff.mp a
  obtain ⟨h2,e2⟩:=List.getElem?_eq_some_iff.mp b
  exact (List.getElem_inj hN).mp (e1.trans e2.symm)
theorem store_ok2 {M:Model} {A:Around} {E:Value -> Shared -> Prop} {i:Nat} {x:Str} {v:V} {u:Value} {Q:Unit -> Shared -> Prop} (I:Inv X pins σ H s) (hN:X.N.Nodup) (hi:X.N[i]? = some x) (hx:Loc X.env.scope x) (r:RelV v u)
    (h:∀ s',Inv X pins (σ.set i (some v)) H s' -> (∃ a,Heap.SameBut a s.heap s'.heap /\ (a = X.env.locals ∨ X.env.cells.lookup x = some a)) -> Q () s') (hf:X.fn x = true ∨ X.env.scope.names.lookup x = some .local:=by first | exact .inl rfl | exact .inr rfl | assumption):wpAny M A (storeName X.env x u) Q E s:=by
  obtain ⟨m,hn,hl⟩:=id I.loc
  have hcls:(X.env.scope.kind == .class || (X.env.scope.kind == .module && X.env.locals != X.env.globals)) = false:=by rw [I.ok.kind]; rfl
  have hiσ:i < σ.length:=by rw [I.len]; exact (List.getElem?_eq_some_iff.mp hi).1
  have cne:=I.cne
  have tracked:∀ {a:Addr} {h':Heap},(∃ o,s.heap.get? a = some o /\ H a = none) -> Heap.SameBut a s.heap h' -> HOk X.prog X.w H h':=fun {a h'} ha hs b ob e => by
    obtain ⟨_,_,hfree⟩:=ha
    refine (I.hok b ob e).stay (fun c w' hc q => (hs.2 c ?_).trans q) (fun _ q => q) fun _ _ q => q
    rintro rfl
    rcases hc with rfl | hc
    . rw [hfree] at e; cases e
    . rw [hfree] at hc; cases hc
  rcases hx with hk | hk
  . refine wpAny_storeName_local hk hn (fun h' hn' hs => ?_) hcls
    obtain ⟨oL,_,_,hoL,_⟩:=id hn
    refine h _ ⟨I.ok,I.os,I.bare,⟨fun b o e n hb hx => ?_,fun b o e n hb hx => ?_,I.base.free,fun b o e hx => ?_,I.base.tups,I.base.frzs,I.base.tbls⟩,⟨_,hn',fun j y v' e1 e2 e3 => ?_⟩,fun y c e => ?_,I.free,I.freeC,fun p hp => ?_,tracked ⟨oL,hoL,I.free⟩ hs,by simpa using I.len⟩ ⟨_,hs,.inl rfl⟩
    . exact (hs.2 b (Nat.ne_of_lt (Nat.lt_of_lt_of_le (Heap.lt_size e) I.ok.above))).trans (I.base.keep b o e n hb hx)
    . obtain ⟨sl,e1⟩:=I.base.slot b o e n hb hx
      exact ⟨sl,(hs.2 b (Nat.ne_of_lt (Nat.lt_of_lt_of_le (Heap.lt_size e) I.ok.above))).trans e1⟩
    . obtain ⟨o',e1⟩:=I.base.there b o e hx
      exact ⟨o',(hs.2 b (Nat.ne_of_lt (Nat.lt_of_lt_of_le (Heap.lt_size e) I.ok.above))).trans e1⟩
    . by_cases hj:j = i
      . subst hj
        rw [hi] at e1; cases e1
        rw [List.getElem?_set_self hiσ] at e2
        cases e2
        exact ⟨u,r,.inl ⟨hk,by simp⟩⟩
      . rw [List.getElem?_set_ne (Ne.symm hj)] at e2
        obtain ⟨u',r',q⟩:=hl j y v' e1 e2 e3
        refine ⟨u',r',?_⟩
        rcases q with ⟨k,e⟩ | ⟨k,c,e,z⟩
        . refine .inl ⟨k,?_⟩
          have:y ≠ x:=fun e => hj (nodup_ix hN e1 (e ▸ hi))
          simp [this,e]
        . exact .inr ⟨k,c,e,z.sameBut hs (cne y c e)⟩
    . obtain ⟨w',z⟩:=I.cell y c e
      exact ⟨w',z.sameBut hs (cne y c e)⟩
    . obtain ⟨e,n,ne,nf,d⟩:=I.pin p hp
      exact ⟨(hs.2 p.1 ne).trans e,n,ne,nf,d⟩
  . have hfn:X.fn x = true:=by
      rcases hf with z | z
      . exact z
      . rw [z] at hk; cases hk
    obtain ⟨c,hc⟩:=I.ok.has x (.inl hk)
    obtain ⟨w',z⟩:=I.cell x c hc
    refine wpAny_storeName_cell I.ok.kind hk hc z (fun h' hc' hs => ?_)
    obtain ⟨oc,hoc,hocd⟩:=id z
    refine h { s with heap:=h' } ⟨I.ok,I.os,I.bare,⟨fun b o e n hb hx => ?_,fun b o e n hb hx => ?_,I.base.free,fun b o e hx => ?_,I.base.tups,I.base.frzs,I.base.tbls⟩,⟨m,hn.sameBut hs (Ne.symm (cne x c hc)),fun j y v' e1 e2 e3 => ?_⟩,fun y c' e => ?_,I.free,I.freeC,fun p hp => ?_,tracked ⟨oc,hoc,I.freeC x c hc⟩ hs,by simpa using I.len⟩ ⟨c,hs,.inr hc⟩
    . exact (hs.2 b (Nat.ne_of_lt (Nat.lt_of_lt_of_le (Heap.lt_size e) (I.ok.cab x c hfn hc)))).trans (I.base.keep b o e n hb hx)
    . obtain ⟨sl,e1⟩:=I.base.slot b o e n hb hx
      exact ⟨sl,(hs.2 b (Nat.ne_of_lt (Nat.lt_of_lt_of_le (Heap.lt_size e) (I.ok.cab x c hfn hc)))).trans e1⟩
    . obtain ⟨o',e1⟩:=I.base.there b o e hx
      exact ⟨o',(hs.2 b (Nat.ne_of_lt (Nat.lt_of_lt_of_le (Heap.lt_size e) (I.ok.cab x c hfn hc)))).trans e1⟩
    . by_cases hj:j = i
      . subst hj
        rw [hi] at e1; cases e1
        rw [List.getElem?_set_self hiσ] at e2
        cases e2
        exact ⟨u,r,.inr ⟨.inl hk,c,hc,hc'⟩⟩
      . rw [List.getElem?_set_ne (Ne.symm hj)] at e2
        obtain ⟨u',r',q⟩:=hl j y v' e1 e2 e3
        refine ⟨u',r',?_⟩
        rcases q with q | ⟨k,c',e,z'⟩
        . exact .inl q
        . refine .inr ⟨k,c',e,z'.sameBut hs ?_⟩
          rintro rfl
          exact hj (nodup_ix hN e1 (I.ok.inj _ _ _ e hc ▸ hi))
    . by_cases hcc:c' = c
      . subst hcc; exact ⟨_,hc'⟩
      . obtain ⟨w2,z2⟩:=I.cell y c' e
        exact ⟨w2,z2.sameBut hs hcc⟩
    . obtain ⟨e,n,ne,nf,d⟩:=I.pin p hp
      refine ⟨(hs.2 p.1 ?_).trans e,n,ne,nf,d⟩
      intro q
      rw [q,hoc] at e
      have q':oc = p.2:=Option.some.inj e
      exact d w' (by rw [← q']; exact hocd)
theorem store_ok {M:Model} {A:Around} {E:Value -> Shared -> Prop} {i:Nat} {x:Str} {v:V} {u:Value} {Q:Unit -> Shared -> Prop} (I:Inv X pins σ H s) (hN:X.N.Nodup) (hi:X.N[i]? = some x) (hx:Loc X.env.scope x) (r:RelV v u)
    (h:∀ s',Inv X pins (σ.set i (some v)) H s' -> Q () s') (hf:X.fn x = true ∨ X.env.scope.names.lookup x = some .local:=by first | exact .inl rfl | exact .inr rfl | assumption):wpAny M A (storeName X.env x u) Q E s :=
  store_ok2 I hN hi hx r (fun s' I' _ => h s' I') hf
theorem Inv.call' {s':Shared} {ch:List Addr} (I:Inv X pins σ H s) (ho:s'.os = s.os) (u:Un (frs X.stack) ch H H' s.heap s'.heap) (hok:HOk X.prog X.w H' s'.heap) (hg:AllBare s'.gens)
    (hch:∀ b ∈ ch,(b ∈ X.ex ∨ X.s₀.heap.objs.size <= b) /\ b ≠ X.env.locals /\ (∀ x c,X.env.cells.lookup x = some c -> c ≠ b) /\ ∀ p ∈ X.pn ++ pins,p.1 ≠ b):Inv X pins σ H' s':=by
  obtain ⟨h',g',d',t',o'⟩:=s'
  have e:o' = s.os:=ho
  subst e
  exact I.call (g':=g') (t':=t') (d':=d') u hok hg hch
end
noncomputable abbrev XK:=Value -> Option Addr -> Hp -> Prop
noncomputable abbrev St:=List (Option V)
noncomputable abbrev VK:=V -> Hp -> Prop
noncomputable abbrev TE:=St -> Hp -> VK -> Prop
noncomputable abbrev TT:=St -> Hp -> (Bool -> Hp -> Prop) -> Prop
noncomputable abbrev TA:=St -> Hp -> (List V -> Hp -> Prop) -> Prop
structure Ends where
  nx:St -> Hp -> Prop
  rt:VK
  bk:St -> Hp -> Prop:=fun _ _ => False
  ct:St -> Hp -> Prop:=fun _ _ => False
noncomputable abbrev TS:=Ends -> St -> Hp -> Prop
noncomputable def EP (X:Cx) (pins:List (Addr×Obj)) (σ:St) (Q:VK) (u:Value) (s':Shared):Prop:=∃ v H',Inv X pins σ H' s' /\ RelV v u /\ Q v H'
noncomputable def TP (X:Cx) (pins:List (Addr×Obj)) (σ:St) (Q:Bool -> Hp -> Prop) (b:Bool) (s':Shared):Prop:=∃ H',Inv X pins σ H' s' /\ Q b H'
noncomputable def AP (X:Cx) (pins:List (Addr×Obj)) (σ:St) (Q:List V -> Hp -> Prop) (us:List Value) (s':Shared):Prop:=∃ vs H',Inv X pins σ H' s' /\ Vals vs us /\ Q vs H'
noncomputable def SP (X:Cx) (pins:List (Addr×Obj)) (D:Ends) (f:Flow) (s':Shared):Prop :=
  match f with
  | .next => ∃ σ' H',Inv X pins σ' H' s' /\ D.nx σ' H'
  | .brk => ∃ σ' H',Inv X pins σ' H' s' /\ D.bk σ' H'
  | .cont => ∃ σ' H',Inv X pins σ' H' s' /\ D.ct σ' H'
  | .ret u => ∃ v σ' H',Inv X pins σ' H' s' /\ RelV v u /\ D.rt v H'
noncomputable def PE (X:Cx) (e:Expr) (t:TE):Prop :=
  ∀ (pins:List (Addr×Obj)) (s:Shared) (σ:St) (H:Hp) (Q:VK),Inv X pins σ H s -> t σ H Q -> wpAny (model X.prog X.w) X.A (eval e X.env) (EP X pins σ Q) X.xe s
noncomputable def PT (X:Cx) (e:Expr) (t:TT):Prop :=
  ∀ (pins:List (Addr×Obj)) (s:Shared) (σ:St) (H:Hp) (Q:Bool -> Hp -> Prop),Inv X pins σ H s -> t σ H Q -> wpAny (model X.prog X.w) X.A (isTrue e X.env (eval e X.env)) (TP X pins σ Q) X.xe s
noncomputable def PW (X:Cx) (e:Expr) (t:TT):Prop :=
  ∀ (whole:Sem Value) (pins:List (Addr×Obj)) (s:Shared) (σ:St) (H:Hp) (Q:Bool -> Hp -> Prop),Inv X pins σ H s -> t σ H Q -> wpAny (model X.prog X.w) X.A (isTrue e X.env whole) (TP X pins σ Q) X.xe s
theorem PW.pt {X:Cx} {e:Expr} {t:TT} (h:PW X e t):PT X e t:=h _
noncomputable def PA (X:Cx) (es:List Expr) (t:TA):Prop :=
  ∀ (pos:Pos) (pins:List (Addr×Obj)) (s:Shared) (σ:St) (H:Hp) (Q:List V -> Hp -> Prop),Inv X pins σ H s -> t σ H Q -> wpAny (model X.prog X.w) X.A (spliced (backTo pos (starEach es X.env))) (AP X pins σ Q) X.xe s
noncomputable def PS (X:Cx) (st:Stmt) (t:TS):Prop :=
  ∀ (pins:List (Addr×Obj)) (s:Shared) (σ:St) (H:Hp) (D:Ends),Inv X pins σ H s -> t D σ H -> wpAny (model X.prog X.w) X.A (exec st X.env) (SP X pins D) X.xe s
noncomputable def PSs (X:Cx) (st:List Stmt) (t:TS):Prop :=
  ∀ (pins:List (Addr×Obj)) (s:Shared) (σ:St) (H:Hp) (D:Ends),Inv X pins σ H s -> t D σ H -> wpAny (model X.prog X.w) X.A (execs st X.env) (SP X pins D) X.xe s
theorem thn {α:Type} {t:Sem α} {Q Q':α -> Shared -> Prop} {M:Model} {A:Around} {E:Value -> Shared -> Prop} {s:Shared} (h:wpAny M A t Q E s) (hQ:∀ a s,Q a s -> Q' a s):wpAny M A t Q' E s:=wpAny_mono h hQ fun _ _ x => x
end L2
namespace L2
open PySem PySem.Spec PyProof.Rows
section
variable {X:Cx}
noncomputable def tVar (i:Nat):TE:=fun σ H Q => ∃ v,σ[i]? = some (some v) /\ Q v H
noncomputable def tC (v:V):TE:=fun _ H Q => Q v H
theorem pe_var {i:Nat} {x:Str} {pos:Pos} (hN:X.N[i]? = some x) (hv:Vis X.env.scope x) (hd:(x == ("__debug__":Str)) = false:=by decide) (hcd:(x == ("__classdict__":Str)) = false:=by decide):PE X (.Name x pos) (tVar i):=by
  intro pins s σ H Q I h
  obtain ⟨v,e,h⟩:=h
  obtain ⟨m,hn,hl⟩:=I.loc
  obtain ⟨u,r,l⟩:=hl i x v hN e hv
  have fin:EP X pins σ Q u s:=⟨v,H,I,r,h⟩
  rcases l with ⟨hk,hm⟩ | ⟨hk,c,hc,hcell⟩
  . exact wpAny_Name (wpAny_loadName_local I.ok.kind hk hn hm fin) hd
  . rcases hk with hk | hk
    . exact wpAny_Name (wpAny_loadName_cell I.ok.kind hk hc hcell fin) hd
    . exact wpAny_Name (wpAny_loadName_free I.ok.kind hk hc hcell fin hcd) hd
theorem pe_int {i j pos}:PE X (.Constant (.int i) j pos) (tC (.int i)):=fun _ _ _ H _ I h => wpAny_Constant_int ⟨.int i,H,I.tok _,⟨_,rfl⟩,h⟩
theorem pe_bl {b j pos}:PE X (.Constant (.bool b) j pos) (tC (.bl b)):=fun _ _ _ H _ I h => Constant_bool ⟨.bl b,H,I,rfl,h⟩
theorem pe_non {j pos}:PE X (.Constant .none j pos) (tC .non):=fun _ _ _ H _ I h => Constant_none ⟨.non,H,I,rfl,h⟩
theorem pe_str {x j pos}:PE X (.Constant (.str x) j pos) (tC (.str x)):=fun _ _ _ H _ I h => Calls.Constant_str ⟨.str x,H,I.tok _,⟨_,rfl⟩,h⟩
noncomputable def Gl (X:Cx) (x:Str):Prop:=X.env.kindOf x = some .globalImplicit
theorem ld_glob {E:Value -> Shared -> Prop} {pins:List (Addr×Obj)} {s:Shared} {σ:St} {H:Hp} {x:Str} {u:Value} {pos:Pos} {Q:Value -> Shared -> Prop} (I:Inv X pins σ H s) (hg:Gl X x) (hm:X.mg x = some u) (h:Q u s)
    (hd:(x == ("__debug__":Str)) = false:=by decide):wpAny (model X.prog X.w) X.A (eval (.Name x pos) X.env) Q E s :=
  Calls.Name_function_global I.ok.kind hg (Calls.loadGlobal_global (by rw [I.ok.glob]; exact I.mod.glob.keeps I.bk) hm h) hd
theorem ld_blt {E:Value -> Shared -> Prop} {pins:List (Addr×Obj)} {s:Shared} {σ:St} {H:Hp} {x:Str} {u:Value} {pos:Pos} {Q:Value -> Shared -> Prop} (I:Inv X pins σ H s) (hg:Gl X x) (hm:X.mg x = none) (hv:bootBuiltins x = some u) (h:Q u s)
    (hn:x ≠ "__name__":=by decide) (hd:(x == ("__debug__":Str)) = false:=by decide):wpAny (model X.prog X.w) X.A (eval (.Name x pos) X.env) Q E s:=by
  obtain ⟨mb,h1,h2⟩:=I.mod.blt
  exact Calls.Name_function_global I.ok.kind hg (Calls.loadGlobal_builtin (by rw [I.ok.glob]; exact I.mod.glob.keeps I.bk) hm (by rw [I.ok.blt]; exact h1.keeps I.bk) ((h2 x hn).trans hv) h) hd
theorem pe_glob {x:Str} {v:V} {u:Value} {pos:Pos} (hg:Gl X x) (hm:X.mg x = some u) (r:RelV v u) (hd:(x == ("__debug__":Str)) = false:=by decide):PE X (.Name x pos) (tC v) :=
  fun _ _ _ H _ I h => ld_glob I hg hm ⟨v,H,I,r,h⟩ hd
theorem pe_bltn {x:Str} {v:V} {u:Value} {pos:Pos} (hg:Gl X x) (hm:X.mg x = none) (hv:bootBuiltins x = some u) (r:RelV v u) (hn:x ≠ "__name__":=by decide) (hd:(x == ("__debug__":Str)) = false:=by decide):PE X (.Name x pos) (tC v) :=
  fun _ _ _ H _ I h => ld_blt I hg hm hv ⟨v,H,I,r,h⟩ hn hd
variable {a b:Expr} {ta tb:TE} {pos:Pos}
noncomputable def tB (t:TE):TT:=fun σ H Q => t σ H fun x H1 => ∃ c,x = .bl c /\ Q c H1
theorem pt_val {e:Expr} {t:TE} (h:PE X e t) (he:∀ whole,isTrue e X.env whole = (do let v ← whole; standAt e.pos; holding [v] (truthy v)):=by intro _; rfl):PT X e (tB t):=by
  intro pins s σ H Q I hw
  refine isTrue_plain (thn (h pins s σ H _ I hw) fun v s1 ⟨x,H1,I1,r1,q1⟩ => ?_) (he _)
  obtain ⟨d,rfl,q⟩:=q1
  cases r1
  exact wpAny_truthy_bool ⟨H1,I1,q⟩
variable {tA tB':TT} {rest:List Expr}
noncomputable def tAnd (t u:TT):TT:=fun σ H Q => t σ H fun c H1 => if c = true then u σ H1 Q else Q false H1
noncomputable def tOr (t u:TT):TT:=fun σ H Q => t σ H fun c H1 => if c = true then Q true H1 else u σ H1 Q
noncomputable def tNot (t:TT):TT:=fun σ H Q => t σ H fun c H1 => Q (!c) H1
theorem pw_and1 (ha:PT X a tA):PW X (.BoolOp .And [a] pos) tA:=by
  intro wh pins s σ H Q I h
  refine isTrue_and (thn (ha pins s σ H Q I h) fun c s1 e => ?_)
  cases c with
  | true => exact isTrue_and_nil e
  | false => exact e
theorem pw_or1 (ha:PT X a tA):PW X (.BoolOp .Or [a] pos) tA:=by
  intro wh pins s σ H Q I h
  refine isTrue_or (thn (ha pins s σ H Q I h) fun c s1 e => ?_)
  cases c with
  | false => exact isTrue_or_nil e
  | true => exact e
theorem pw_and (ha:PT X a tA) (hb:PW X (.BoolOp .And (b :: rest) pos) tB'):PW X (.BoolOp .And (a :: b :: rest) pos) (tAnd tA tB'):=by
  intro wh pins s σ H Q I h
  refine isTrue_and (thn (ha pins s σ H _ I h) fun c s1 ⟨H1,I1,q1⟩ => ?_)
  cases c with
  | true => exact hb wh pins s1 σ H1 Q I1 q1
  | false => exact ⟨H1,I1,q1⟩
theorem pw_or (ha:PT X a tA) (hb:PW X (.BoolOp .Or (b :: rest) pos) tB'):PW X (.BoolOp .Or (a :: b :: rest) pos) (tOr tA tB'):=by
  intro wh pins s σ H Q I h
  refine isTrue_or (thn (ha pins s σ H _ I h) fun c s1 ⟨H1,I1,q1⟩ => ?_)
  cases c with
  | true => exact ⟨H1,I1,q1⟩
  | false => exact hb wh pins s1 σ H1 Q I1 q1
theorem pt_not (ha:PT X a tA):PT X (.UnaryOp .Not a pos) (tNot tA):=by
  intro pins s σ H Q I h
  exact isTrue_not (ha pins s σ H (fun c H1 => Q (!c) H1) I h)
noncomputable def tAndV (ta tb:TE):TE:=fun σ H Q => ta σ H fun x H1 => ∃ c,x = .bl c /\ if c = true then tb σ H1 Q else Q (.bl false) H1
noncomputable def tOrV (ta tb:TE):TE:=fun σ H Q => ta σ H fun x H1 => ∃ c,x = .bl c /\ if c = true then Q (.bl true) H1 else tb σ H1 Q
noncomputable def tNotV (ta:TE):TE:=fun σ H Q => ta σ H fun x H1 => ∃ c,x = .bl c /\ Q (.bl (!c)) H1
theorem pe_one {op} {t:TE} (h:PE X a t):PE X (.BoolOp op [a] pos) t:=fun pins s σ H Q I hw => BoolOp_one (h pins s σ H Q I hw)
theorem pe_and (ha:PE X a ta) (hb:PE X (.BoolOp .And (b :: rest) pos) tb):PE X (.BoolOp .And (a :: b :: rest) pos) (tAndV ta tb):=by
  intro pins s σ H Q I h
  refine BoolOp_and (thn (ha pins s σ H _ I h) fun v s1 ⟨x,H1,I1,r1,q1⟩ => ?_)
  obtain ⟨c,rfl,q1⟩:=q1
  cases r1
  refine wpAny_truthy_bool ?_
  cases c with
  | true => exact hb pins s1 σ H1 Q I1 q1
  | false => exact ⟨.bl false,H1,I1,rfl,q1⟩
theorem pe_not (ha:PE X a ta):PE X (.UnaryOp .Not a pos) (tNotV ta):=by
  intro pins s σ H Q I h
  refine UnaryOp_ (thn (ha pins s σ H _ I h) fun v s1 ⟨x,H1,I1,r1,q1⟩ => ?_)
  obtain ⟨c,rfl,q1⟩:=q1
  cases r1
  exact not_of (wpAny_truthy_bool ⟨.bl (!c),H1,I1,rfl,q1⟩)
noncomputable def tIf (t:TT) (ta tb:TE):TE:=fun σ H Q => t σ H fun c H1 => if c = true then ta σ H1 Q else tb σ H1 Q
theorem pe_ifExp {c:Expr} (hc:PT X c tA) (ha:PE X a ta) (hb:PE X b tb):PE X (.IfExp c a b pos) (tIf tA ta tb):=by
  intro pins s σ H Q I h
  refine wpAny_IfExp (thn (hc pins s σ H _ I h) fun d s1 ⟨H1,I1,q1⟩ => ?_)
  cases d with
  | true => exact ha pins s1 σ H1 Q I1 q1
  | false => exact hb pins s1 σ H1 Q I1 q1
end
end L2
namespace L2
open PySem PySem.Spec PyProof.Rows
noncomputable def SqL (K:PySem.W.Frag) (H:Hp) (a:Addr) (xs:List V):Prop :=
  Rd H a (.lst xs) ∨
    ∃ (o:Obj) (its:Array Value) (n:Nat),K.lookup a = some o /\ o.cls = .type "list" /\ o.dict = none /\ o.data = .seq its n /\ its.size <= sizeLine /\ Vals xs its.toList
noncomputable def SqT (K:PySem.W.Frag) (H:Hp) (a:Addr) (xs:List V):Prop :=
  Rd H a (.tup xs) ∨
    ∃ (o:Obj) (its:Array Value) (n:Nat),K.lookup a = some o /\ o.cls = .type "tuple" /\ o.data = .seq its n /\ its.size <= sizeLine /\ Vals xs its.toList
noncomputable def absV:Value -> Option V
  | .none => some .non
  | .bool b => some (.bl b)
  | .int i _ => some (.int i)
  | .str x _ => some (.str x)
  | .bytes b _ => some (.byt b)
  | .float b _ => some (.flt b)
  | .ref a => some (.ref a)
  | .type n => some (.ty n)
  | _ => none
theorem RelV.abs {x:V} {u:Value} (r:RelV x u):absV u = some x:=by
  cases x with
  | non => cases r; rfl
  | bl _ => cases r; rfl
  | int _ => obtain ⟨t,rfl⟩:=r; rfl
  | str _ => obtain ⟨t,rfl⟩:=r; rfl
  | byt _ => obtain ⟨t,rfl⟩:=r; rfl
  | flt _ => obtain ⟨t,rfl⟩:=r; rfl
  | ref _ => cases r; rfl
  | ty _ => cases r; rfl
theorem RelV.inj {x y:V} {u:Value} (r:RelV x u) (q:RelV y u):x = y:=Option.some.inj (r.abs.symm.trans q.abs)
theorem Vals.inj:∀ {xs ys:List V} {us:List Value},Vals xs us -> Vals ys us -> xs = ys
  | _,_,_,.nil,.nil => rfl
  | _,_,_,.cons r t,.cons r' t' => by rw [r.inj r',Vals.inj t t']
section
variable {X:Cx} {pins:List (Addr×Obj)} {σ:St} {H:Hp} {s:Shared} {a:Addr} {xs ys:List V}
theorem SqL.of {K:PySem.W.Frag} (h:H a = some (.lst xs)):SqL K H a xs:=.inl (.inl h)
theorem SqT.of {K:PySem.W.Frag} (h:H a = some (.tup xs)):SqT K H a xs:=.inl (.inl h)
theorem Inv.list (I:Inv X pins σ H s) (h:SqL X.K H a xs):∃ its:List Value,Vals xs its /\ PlainL s.heap a its.toArray /\ xs.length <= sizeLine:=by
  rcases h with h | ⟨o,its,n,hk,hc,hd,hs,hz,r⟩
  . obtain ⟨z,its,n,r,e⟩:=h.ok I.hok
    exact ⟨its,r,⟨_,n,e,rfl,rfl,rfl⟩,z⟩
  . refine ⟨its.toList,r,⟨o,n,I.kIn a o hk,hc,hd,by simpa using hs⟩,?_⟩
    have e:=r.length
    simp only [Array.length_toList] at e
    omega
theorem Inv.tuple (I:Inv X pins σ H s) (h:SqT X.K H a xs):∃ its:List Value,Vals xs its /\ IsTup s.heap a its.toArray /\ xs.length <= sizeLine:=by
  rcases h with h | ⟨o,its,n,hk,hc,hs,hz,r⟩
  . obtain ⟨z,its,r,p⟩:=h.ok I.hok
    exact ⟨its,r,p,z⟩
  . refine ⟨its.toList,r,⟨o,I.kIn a o hk,hc,n,by simpa using hs⟩,?_⟩
    have e:=r.length
    simp only [Array.length_toList] at e
    omega
theorem Inv.list_inj (I:Inv X pins σ H s) (h:SqL X.K H a xs) (h':SqL X.K H a ys):xs = ys:=by
  obtain ⟨its,r,⟨o,n,e,_,_,d⟩,_⟩:=I.list h
  obtain ⟨its',r',⟨o',n',e',_,_,d'⟩,_⟩:=I.list h'
  rw [e] at e'; cases e'
  rw [d] at d'
  injection d' with d1 _
  have:its = its':=by simpa using congrArg Array.toList d1
  subst this
  exact r.inj r'
theorem Inv.tuple_inj (I:Inv X pins σ H s) (h:SqT X.K H a xs) (h':SqT X.K H a ys):xs = ys:=by
  obtain ⟨its,r,⟨o,e,_,n,d⟩,_⟩:=I.tuple h
  obtain ⟨its',r',⟨o',e',_,n',d'⟩,_⟩:=I.tuple h'
  rw [e] at e'; cases e'
  rw [d] at d'
  injection d' with d1 _
  have:its = its':=by simpa using congrArg Array.toList d1
  subst this
  exact r.inj r'
end
noncomputable abbrev Cx.wish (X:Cx) (E:Value -> Shared -> Prop):Cx:={ X with xe:=E }
noncomputable abbrev Cx.nox (X:Cx):Cx:=X.wish fun _ _ => False
theorem Cx.Ok.wish {X:Cx} (ok:X.Ok) (E:Value -> Shared -> Prop):(X.wish E).Ok :=
  ⟨ok.mod,ok.kind,ok.glob,ok.blt,ok.above,ok.inj,ok.has,ok.cab,ok.hd,ok.frames,ok.stk,ok.exf,ok.bs,ok.bsz,ok.noex,ok.exfs,ok.funs,ok.frf⟩
theorem Cx.Ok.unwish {X:Cx} {E:Value -> Shared -> Prop} (ok:(X.wish E).Ok):X.Ok :=
  ⟨ok.mod,ok.kind,ok.glob,ok.blt,ok.above,ok.inj,ok.has,ok.cab,ok.hd,ok.frames,ok.stk,ok.exf,ok.bs,ok.bsz,ok.noex,ok.exfs,ok.funs,ok.frf⟩
section
variable {X:Cx} {pins:List (Addr×Obj)} {σ:St} {H:Hp} {s:Shared} {E:Value -> Shared -> Prop}
theorem Inv.wish (I:Inv X pins σ H s) (E:Value -> Shared -> Prop):Inv (X.wish E) pins σ H s:=⟨I.ok.wish E,I.os,I.bare,I.base,I.loc,I.cell,I.free,I.freeC,I.pin,I.hok,I.len⟩
theorem Inv.unwish (I:Inv (X.wish E) pins σ H s):Inv X pins σ H s:=⟨I.ok.unwish,I.os,I.bare,I.base,I.loc,I.cell,I.free,I.freeC,I.pin,I.hok,I.len⟩
theorem SP.unwish {D:Ends} {f:Flow} {s':Shared} (h:SP (X.wish E) pins D f s'):SP X pins D f s':=by
  cases f with
  | next => obtain ⟨σ',H',I,q⟩:=h; exact ⟨σ',H',I.unwish,q⟩
  | brk => obtain ⟨σ',H',I,q⟩:=h; exact ⟨σ',H',I.unwish,q⟩
  | cont => obtain ⟨σ',H',I,q⟩:=h; exact ⟨σ',H',I.unwish,q⟩
  | ret u => obtain ⟨v,σ',H',I,r,q⟩:=h; exact ⟨v,σ',H',I.unwish,r,q⟩
theorem PE.nox {e:Expr} {t:TE} (h:PE X.nox e t):PE X e t:=fun pins s σ H Q I hw =>
  wpAny_mono (h pins s σ H Q (I.wish _) hw) (fun _ _ ⟨v,H',I',r,q⟩ => ⟨v,H',I'.unwish,r,q⟩) fun _ _ z => False.elim z
theorem PT.nox {e:Expr} {t:TT} (h:PT X.nox e t):PT X e t:=fun pins s σ H Q I hw =>
  wpAny_mono (h pins s σ H Q (I.wish _) hw) (fun _ _ ⟨H',I',q⟩ => ⟨H',I'.unwish,q⟩) fun _ _ z => False.elim z
theorem PSs.nox {st:List Stmt} {t:TS} (h:PSs X.nox st t):PSs X st t:=fun pins s σ H D I hw =>
  wpAny_mono (h pins s σ H D (I.wish _) hw) (fun _ _ q => q.unwish) fun _ _ z => False.elim z
end
section
variable {X:Cx} {st:Stmt} {rest:List Stmt} {t u:TS} {e:Expr} {te:TE} {pos:Pos}
noncomputable def tNext:TS:=fun D σ H => D.nx σ H
noncomputable def tSeq (t u:TS):TS:=fun D σ H => t { D with nx:=u D } σ H
theorem pss_nil:PSs X [] tNext:=fun _ _ σ H _ I h => wpAny_execs_nil ⟨σ,H,I,h⟩
theorem pss_cons (h1:PS X st t) (h2:PSs X rest u):PSs X (st :: rest) (tSeq t u):=by
  intro pins s σ H D I h
  refine wpAny_execs_cons (thn (h1 pins s σ H { D with nx:=u D } I h) fun f s1 q => ?_)
  cases f with
  | next =>
    obtain ⟨σ',H',I',q⟩:=q
    exact h2 pins s1 σ' H' D I' q
  | ret v => exact q
  | brk => exact q
  | cont => exact q
theorem pss_one (h1:PS X st t):PSs X [st] t:=by
  intro pins s σ H D I h
  refine wpAny_execs_cons (thn (h1 pins s σ H D I h) fun f s1 q => ?_)
  cases f with
  | next => exact wpAny_execs_nil q
  | ret v => exact q
  | brk => exact q
  | cont => exact q
noncomputable def tBreak:TS:=fun D σ H => D.bk σ H
noncomputable def tCont:TS:=fun D σ H => D.ct σ H
theorem Inv.quiet {pins:List (Addr×Obj)} {σ:St} {H:Hp} {s:Shared} (I:Inv X pins σ H s):interactive X.env = false:=by simp [interactive,I.ok.kind]
noncomputable def tDrop (te:TE):TS:=fun D σ H => te σ H fun _ H1 => D.nx σ H1
theorem ps_expr (he:PE X e te) (hs:swapsWith e none pos.line X.env = pure false:=by rfl):PS X (.Expr e pos) (tDrop te):=by
  intro pins s σ H D I h
  exact wpAny_Expr_any (thn (he pins s σ H _ I h) fun v s1 ⟨x,H1,I1,r1,q1⟩ => ⟨σ,H1,I1,q1⟩) I.quiet hs
noncomputable def tRet (te:TE):TS:=fun D σ H => te σ H D.rt
theorem ps_ret (he:PE X e te):PS X (.Return (some e) pos) (tRet te):=by
  intro pins s σ H D I h
  exact wpAny_Return_some (thn (he pins s σ H _ I h) fun v s1 ⟨x,H1,I1,r1,q1⟩ => ⟨x,σ,H1,I1,r1,q1⟩)
noncomputable def tRetN:TS:=fun D _ H => D.rt .non H
noncomputable def tIfS (c:TT) (t u:TS):TS:=fun D σ H => c σ H fun b H1 => if b = true then t D σ H1 else u D σ H1
theorem ps_if {c:Expr} {a b:List Stmt} {tc:TT} (hc:PT X c tc) (ha:PSs X a t) (hb:PSs X b u):PS X (.If c a b pos) (tIfS tc t u):=by
  intro pins s σ H D I h
  refine wpAny_If (thn (hc pins s σ H _ I h) fun d s1 ⟨H1,I1,q1⟩ => ?_)
  cases d with
  | true => exact ha pins s1 σ H1 D I1 q1
  | false => exact hb pins s1 σ H1 D I1 q1
noncomputable def tNever:TS:=fun _ _ _ => False
theorem ps_never:PS X st tNever:=fun _ _ _ _ _ _ h => h.elim
end
noncomputable abbrev TG:=V -> St -> Hp -> (St -> Hp -> Prop) -> Prop
noncomputable abbrev TGs:=List V -> St -> Hp -> (St -> Hp -> Prop) -> Prop
noncomputable def PG (X:Cx) (target:Expr) (t:TG):Prop :=
  ∀ (pins:List (Addr×Obj)) (s:Shared) (σ:St) (H:Hp) (v:V) (u:Value) (Q:St -> Hp -> Prop),Inv X pins σ H s -> RelV v u -> t v σ H Q ->
    wpAny (model X.prog X.w) X.A (assign target X.env u) (fun _ s' => ∃ σ' H',Inv X pins σ' H' s' /\ Q σ' H') X.xe s
noncomputable def PGs (X:Cx) (ts:List Expr) (t:TGs):Prop :=
  ∀ (pins:List (Addr×Obj)) (s:Shared) (σ:St) (H:Hp) (vs:List V) (us:List Value) (Q:St -> Hp -> Prop),Inv X pins σ H s -> Vals vs us -> t vs σ H Q ->
    wpAny (model X.prog X.w) X.A (assignInOrder ((assignEach ts X.env).map (·.2)) us) (fun _ s' => ∃ σ' H',Inv X pins σ' H' s' /\ Q σ' H') X.xe s
noncomputable abbrev TSet:=V -> V -> V -> Hp -> (Hp -> Prop) -> Prop
noncomputable abbrev TIp:=V -> V -> Hp -> VK -> Prop
noncomputable def PIp (X:Cx) (op:Operator) (t:TIp):Prop :=
  ∀ (pins:List (Addr×Obj)) (s:Shared) (σ:St) (H:Hp) (x y:V) (v u:Value) (Q:VK),Inv X pins σ H s -> RelV x v -> RelV y u -> t x y H Q ->
    wpAny (model X.prog X.w) X.A (inplaceOp op v u) (EP X pins σ Q) X.xe s
section
variable {X:Cx} {pos:Pos}
noncomputable def gName (i:Nat):TG:=fun v σ H Q => Q (σ.set i (some v)) H
theorem pg_name {i:Nat} {x:Str} (hN:X.N.Nodup) (hi:X.N[i]? = some x) (hx:Loc X.env.scope x) (hf:X.fn x = true ∨ X.env.scope.names.lookup x = some .local:=by first | exact .inl rfl | exact .inr rfl | assumption):PG X (.Name x pos) (gName i):=by
  intro pins s σ H v u Q I r h
  exact wpAny_assign_Name (store_ok I hN hi hx r (fun s' I' => ⟨_,H,I',h⟩) hf)
noncomputable def gNil:TGs:=fun vs σ H Q => vs = [] /\ Q σ H
noncomputable def gCons (t:TG) (u:TGs):TGs:=fun vs σ H Q => ∃ v r,vs = v :: r /\ t v σ H fun σ' H' => u r σ' H' Q
theorem pgs_nil:PGs X [] gNil:=by
  intro pins s σ H vs us Q I r h
  obtain ⟨e,h⟩:=h
  subst e
  cases r
  exact assignInOrder_nil ⟨σ,H,I,h⟩
theorem pgs_cons {e:Expr} {es:List Expr} {t:TG} {u:TGs} (h1:PG X e t) (h2:PGs X es u)
    (hs:(assignEach (e :: es) X.env).map (·.2) = assign e X.env :: (assignEach es X.env).map (·.2):=by rfl):PGs X (e :: es) (gCons t u):=by
  intro pins s σ H vs us Q I r h
  obtain ⟨v,vr,e1,h⟩:=h
  subst e1
  cases r with
  | cons r rr =>
    rw [hs]
    refine assignInOrder_cons (thn (h1 pins s σ H _ _ _ I r h) fun _ s1 ⟨σ1,H1,I1,q1⟩ => ?_)
    exact h2 pins s1 σ1 H1 _ _ Q I1 rr q1
noncomputable def gTup (K:PySem.W.Frag) (n:Nat) (t:TGs):TG:=fun v σ H Q => ∃ a xs,v = .ref a /\ SqT K H a xs /\ xs.length = n /\ t xs σ H Q
theorem pg_tup {es:List Expr} {k:Nat} {t:TGs} {n:Nat} (hc:X.calm = true) (h:PGs X es t)
    (hn:(assignEach es X.env).length = n:=by rfl) (hst:(assignEach es X.env).findIdx? (·.1) = none:=by rfl):PG X (.Tuple es k pos) (gTup X.K n t):=by
  intro pins s σ H v u Q I r hw
  obtain ⟨a,xs,e1,hq,hl,hw⟩:=hw
  subst e1
  cases r
  obtain ⟨its,rv,ht,hz⟩:=I.tuple hq
  refine assign_Tuple_tuple (I.ok.hd hc) ht (by simp [hn,← hl,rv.length]) hst fun h' hx => ?_
  have I1:Inv X pins σ H { s with heap:=h' }:=I.kept (t':=s.toks) fun b o e => hx b o (Nat.ne_of_lt (Heap.lt_size e)) e
  exact h pins _ σ H xs _ Q I1 (by simpa using rv) hw
noncomputable def gSub (to ti:TE) (t:TSet):TG:=fun v σ H Q => to σ H fun o H1 => ti σ H1 fun i H2 => t o i v H2 fun H3 => Q σ H3
noncomputable def tAsg (te:TE) (g:TG):TS:=fun D σ H => te σ H fun x H1 => g x σ H1 D.nx
theorem ps_set {i:Nat} {x:Str} {e:Expr} {te:TE} {pos':Pos} (hN:X.N.Nodup) (hi:X.N[i]? = some x) (hx:Loc X.env.scope x) (he:PE X e te) (hs:swapsWith e (some (.Name x pos')) pos.line X.env = pure false:=by rfl) (hf:X.fn x = true ∨ X.env.scope.names.lookup x = some .local:=by first | exact .inl rfl | exact .inr rfl | assumption) :
    PS X (.Assign [.Name x pos'] e pos) (tAsg te (gName i)):=by
  intro pins s σ H D I h
  refine wpAny_Assign_Name (thn (he pins s σ H _ I h) fun v s1 ⟨y,H1,I1,r1,q1⟩ => ?_) hs
  exact store_ok I1 hN hi hx r1 (fun s2 I2 => ⟨_,H1,I2,q1⟩) hf
noncomputable def tPar (i j:Nat) (ta:TA):TS:=fun D σ H => ta σ H fun vs H1 => ∃ v w,vs = [v,w] /\ D.nx ((σ.set i (some v)).set j (some w)) H1
theorem ps_par {i j:Nat} {x y:Str} {a b:Expr} {ta:TA} {px py pt:Pos} {kt k2 pt2} (hc:X.calm = true) (hN:X.N.Nodup) (hi:X.N[i]? = some x) (hj:X.N[j]? = some y) (hij:i ≠ j)
    (hx:X.env.scope.names.lookup x = some .local) (hy:X.env.scope.names.lookup y = some .local) (ha:PA X [a,b] ta)
    (hw:swappedStores [.Tuple [.Name x px,.Name y py] kt pt] (.Tuple [a,b] k2 pt2) X.env = pure (some [x,y]))
    (hs:swapsWithSole [.Tuple [.Name x px,.Name y py] kt pt] (.Tuple [a,b] k2 pt2) pos.line X.env = pure false:=by rfl) :
    PS X (.Assign [.Tuple [.Name x px,.Name y py] kt pt] (.Tuple [a,b] k2 pt2) pos) (tPar i j ta):=by
  intro pins s σ H D I h
  rw [exec_Assign_arm]
  refine wpAny_bind (wpAny_standAt ?_)
  rw [hs]
  refine wpAny_bind (wpAny_pure ?_)
  rw [if_neg (by decide)]
  refine wpAny_bind (Tuple_ (thn (ha _ pins s σ H _ I h) fun us s1 ⟨vs,H1,I1,r1,q1⟩ => ?_))
  obtain ⟨v,w,e1,q1⟩:=q1
  subst e1
  obtain ⟨u1,u2,rfl,rv,rw'⟩:∃ u1 u2,us = [u1,u2] /\ RelV v u1 /\ RelV w u2:=by
    cases r1 with
    | cons p q =>
      cases q with
      | cons p' q' =>
        cases q'
        exact ⟨_,_,rfl,p,p'⟩
  refine wpAny_newObj_type ?_ (by show 2 <= sizeLine; decide)
  have I2:Inv X pins σ H1 { s1 with heap:=s1.heap.push { cls:=.type "tuple",data:=.seq [u1,u2].toArray } }:=I1.kept (t':=s1.toks) fun b o e => Heap.get?_push_of_some _ e
  rw [hw]
  refine wpAny_bind (wpAny_pure ?_)
  show wpAny (model X.prog X.w) X.A (do rule "assign.swapped-stores"; let items ← unpackItems (.ref s1.heap.objs.size) 2 none; assignInOrder [fun v => bindName X.env y v,fun v => bindName X.env x v] items.reverse; pure Flow.next) _ _ _
  refine wpAny_bind (wpAny_rule (wpAny_bind (unpackItems_tuple (items:=#[u1,u2]) (I.ok.hd hc) (IsTup.new s1.heap _) fun h' hx' => ?_)))
  have I3:=I2.kept (h':=h') (t':=s1.toks) fun b o e => hx' b o (Nat.ne_of_lt (Heap.lt_size e)) e
  show wpAny _ _ (assignInOrder [fun v => bindName X.env y v,fun v => bindName X.env x v] [u2,u1] >>= fun _ => pure Flow.next) _ _ _
  refine wpAny_bind (assignInOrder_cons (wpAny_bindName (store_ok I3 hN hj (.inl hy) rw' (fun s2 I4 => ?_) (.inr hy))))
  refine assignInOrder_cons (wpAny_bindName (store_ok I4 hN hi (.inl hx) rv (fun s3 I5 => assignInOrder_nil (wpAny_pure ?_)) (.inr hx)))
  rw [List.set_comm _ _ (Ne.symm hij)] at I5
  exact ⟨_,H1,I5,q1⟩
noncomputable def tAug (i:Nat) (te:TE) (ti:TIp):TS:=fun D σ H => ∃ x,σ[i]? = some (some x) /\ te σ H fun y H1 => ti x y H1 fun z H2 => D.nx (σ.set i (some z)) H2
theorem ps_aug {i:Nat} {x:Str} {e:Expr} {te:TE} {op:Operator} {ti:TIp} {pos':Pos} (hN:X.N.Nodup) (hi:X.N[i]? = some x) (hx:Loc X.env.scope x) (he:PE X e te) (ho:PIp X op ti) (hf:X.fn x = true ∨ X.env.scope.names.lookup x = some .local:=by first | exact .inl rfl | exact .inr rfl | assumption) :
    PS X (.AugAssign (.Name x pos') op e pos) (tAug i te ti):=by
  intro pins s σ H D I h
  obtain ⟨v,e1,h⟩:=h
  obtain ⟨m,hn,hl⟩:=I.loc
  have vis:Vis X.env.scope x:=by rcases hx with k | k; exact .inl k; exact .inr (.inl k)
  obtain ⟨u,r,l⟩:=hl i x v hi e1 vis
  refine wpAny_AugAssign_Name ?_
  have go:wpAny (model X.prog X.w) X.A (eval e X.env) (fun w s₂ => wpAny (model X.prog X.w) X.A (inplaceOp op u w) (fun r s₃ => wpAny (model X.prog X.w) X.A (storeName X.env x r) (fun _ => SP X pins D .next) X.xe s₃) X.xe s₂) X.xe s:=by
    refine thn (he pins s σ H _ I h) fun w s1 ⟨y,H1,I1,r1,q1⟩ => ?_
    refine thn (ho pins s1 σ H1 v y u w _ I1 r r1 q1) fun z s2 ⟨zv,H2,I2,r2,q2⟩ => ?_
    exact store_ok I2 hN hi hx r2 (fun s3 I3 => ⟨_,H2,I3,q2⟩) hf
  rcases l with ⟨hk,hm⟩ | ⟨hk,c,hc,hcell⟩
  . exact wpAny_loadName_local I.ok.kind hk hn hm go
  . rcases hk with hk | hk
    . exact wpAny_loadName_cell I.ok.kind hk hc hcell go
    . rcases hx with k | k
      . have:X.env.scope.names.lookup x = some .free:=hk
        rw [k] at this; cases this
      . have:X.env.scope.names.lookup x = some .free:=hk
        rw [k] at this; cases this
noncomputable def ipI (f:Int -> Int -> Int):TIp:=fun x y H Q => ∃ i j,x = .int i /\ y = .int j /\ Q (.int (f i j)) H
theorem ip_add:PIp X .Add (ipI fun i j => i + j):=by
  intro pins s σ H x y v u Q I r1 r2 h
  obtain ⟨i,j,e1,e2,q⟩:=h
  subst e1; subst e2
  obtain ⟨t,rfl⟩:=r1
  obtain ⟨t',rfl⟩:=r2
  exact iadd_int ⟨.int _,H,I.tok _,⟨_,rfl⟩,q⟩
end
section
variable {X:Cx} {pos:Pos}
noncomputable def tWhile (c:TT) (tb:TS):TS:=fun D σ H => ∃ W:Nat -> St -> Hp -> Prop,(∃ m,W m σ H) /\ ∀ m σ H,W m σ H ->
  c σ H fun b H1 => if b = true then ∃ N:St -> Hp -> Prop,(∀ σ' H',N σ' H' -> ∃ m',m' < m /\ W m' σ' H') /\ tb { D with nx:=N,ct:=N,bk:=D.nx } σ H1 else D.nx σ H1
theorem ps_while {c:Expr} {body:List Stmt} {tc:TT} {tb:TS} (hp:PassesOwn (model X.prog X.w) X.A X.env X.xe) (hc:PT X c tc) (hb:PSs X body tb):PS X (.While c body [] pos) (tWhile tc tb):=by
  intro pins s σ H D I h
  obtain ⟨W,⟨m0,w0⟩,turn⟩:=h
  refine wpAny_While (codeAny_whileLoop (fun n s' => ∃ σ' H',Inv X pins σ' H' s' /\ W n σ' H') ?_ m0 ⟨σ,H,I,w0⟩)
  rintro n s1 ⟨σ1,H1,I1,w1⟩
  refine wpAny_passesOwn hp (thn (hc pins s1 σ1 H1 _ I1 (turn n σ1 H1 w1)) fun b s2 ⟨H2,I2,q2⟩ => ?_)
  cases b with
  | true =>
    obtain ⟨N,hN,q2⟩:=q2
    rw [if_pos rfl]
    refine wpAny_passesOwn hp (thn (hb pins s2 σ1 H2 _ I2 q2) fun f s3 q3 => ?_)
    cases f with
    | next =>
      obtain ⟨σ3,H3,I3,n3⟩:=q3
      obtain ⟨m',hm,w3⟩:=hN σ3 H3 n3
      exact ⟨m',hm,σ3,H3,I3,w3⟩
    | cont =>
      obtain ⟨σ3,H3,I3,n3⟩:=q3
      obtain ⟨m',hm,w3⟩:=hN σ3 H3 n3
      exact ⟨m',hm,σ3,H3,I3,w3⟩
    | brk => exact q3
    | ret v => exact q3
  | false =>
    rw [if_neg Bool.false_ne_true]
    exact wpAny_execs_nil ⟨σ1,H2,I2,q2⟩
end
structure It where
  go:Nat -> Hp -> Prop
  yld:Nat -> Hp -> V -> Hp -> Prop
  stop:Nat -> Hp -> Prop
noncomputable def FpOk (X:Cx) (pins:List (Addr×Obj)) (H:Hp) (b:Addr):Prop :=
  H b = none /\ b ≠ X.env.locals /\ b ∉ X.fs /\ (b ∈ X.ex ∨ X.s₀.heap.objs.size <= b) /\ (∀ x c,X.env.cells.lookup x = some c -> c ≠ b) /\ ∀ p ∈ X.pn ++ pins,p.1 ≠ b
theorem Inv.fpOk {X:Cx} {pins:List (Addr×Obj)} {σ:St} {H H':Hp} {s:Shared} {b:Addr} (I:Inv X pins σ H s) (hb:s.heap.objs.size <= b) (hn:H' b = none):FpOk X pins H' b:=by
  refine ⟨hn,Nat.ne_of_gt (Nat.lt_of_lt_of_le I.lt hb),I.nofs hb,.inr (Nat.le_trans I.sz hb),fun x c e z => ?_,fun p hp z => ?_⟩
  . obtain ⟨v,q⟩:=I.cell x c e
    exact absurd (Nat.lt_of_lt_of_le q.lt (by rw [z]; exact hb)) (Nat.lt_irrefl _)
  . exact absurd (Nat.lt_of_lt_of_le (Heap.lt_size (I.pin p hp).1) (by rw [z]; exact hb)) (Nat.lt_irrefl _)
structure Turn (P:Program) (w:World) (K:PySem.W.Frag) (tg:Expr) (J:It) (fp:List Addr) (it:Addr) (tn:Nat -> Heap -> Prop):Prop where
  mem:it ∈ fp
  obj:∀ i h,tn i h -> ∀ b ∈ fp,∃ o,h.get? b = some o /\ ∀ v,o.data ≠ .cell v
  keep:∀ i h h',tn i h -> (∀ b ∈ fp,∀ o,h.get? b = some o -> h'.get? b = some o) -> tn i h'
  item:∀ (X:Cx),X.prog = P -> X.w = w -> X.K = K -> X.calm = true -> ∀ (i:Nat) (pins:List (Addr×Obj)) (s:Shared) (σ:St) (H:Hp) (E:Value -> Shared -> Prop),Inv X pins σ H s -> (∀ b ∈ fp,FpOk X pins H b) -> tn i s.heap -> J.go i H ->
    wpAny (model P w) X.A (pyNext (.ref it)) (fun r s1 => ∃ u,r = some u /\
      wpAny (model P w) X.A (letOwnedTupleGo tg (.ref it) u) (fun _ s2 => ∃ x H',Inv X pins σ H' s2 /\ RelV x u /\ J.yld i H x H' /\ tn (i + 1) s2.heap /\ ∀ b ∈ fp,H' b = none) E s1) E s
  done:∀ (X:Cx),X.prog = P -> X.w = w -> X.K = K -> X.calm = true -> ∀ (i:Nat) (pins:List (Addr×Obj)) (s:Shared) (σ:St) (H:Hp) (E:Value -> Shared -> Prop),Inv X pins σ H s -> (∀ b ∈ fp,FpOk X pins H b) -> tn i s.heap -> J.stop i H ->
    wpAny (model P w) X.A (pyNext (.ref it)) (fun r s1 => r = none /\ Inv X pins σ H s1) E s
  self:∀ (A:Around) (i:Nat) (s:Shared) (Q:Value -> Shared -> Prop) (E:Value -> Shared -> Prop),tn i s.heap -> Q (.ref it) s -> wpAny (model P w) A (pyIter (.ref it)) Q E s
noncomputable abbrev TI:=St -> Hp -> (It -> Hp -> Prop) -> Prop
noncomputable def PIE (X:Cx) (pins:List (Addr×Obj)) (σ:St) (tg:Expr) (R:It -> Hp -> Prop) (itv:Value) (s2:Shared):Prop :=
  ∃ (it:Addr) (fp:List Addr) (tn:Nat -> Heap -> Prop) (J:It) (H':Hp),itv = .ref it /\ Inv X pins σ H' s2 /\ Turn X.prog X.w X.K tg J fp it tn /\ tn 0 s2.heap /\ (∀ b ∈ fp,FpOk X pins H' b) /\ R J H'
noncomputable def PI (X:Cx) (tg iter:Expr) (wi:TI):Prop :=
  ∀ (pins:List (Addr×Obj)) (s:Shared) (σ:St) (H:Hp) (R:It -> Hp -> Prop),Inv X pins σ H s -> wi σ H R ->
    wpAny (model X.prog X.w) X.A (eval iter X.env) (fun v s1 => wpAny (model X.prog X.w) X.A (pyIter v) (PIE X pins σ tg R) X.xe s1) X.xe s
theorem go_of {M:Model} {A:Around} {E:Value -> Shared -> Prop} {s:Shared} {tg:Expr} {it:Addr} {u:Value} {o:Obj} {n:String} {vs:Array Value} {Q:Unit -> Shared -> Prop} (ho:s.heap.get? it = some o) (hc:o.cls = .type n) (hd:o.data = .fields vs)
    (hn:["enumerate","zip","dict_itemiterator","dict_reverseitemiterator","odict_iterator","itertools.zip_longest","itertools.pairwise"].contains n = false) (hQ:Q () s):wpAny M A (letOwnedTupleGo tg (.ref it) u) Q E s:=by
  unfold letOwnedTupleGo
  cases tg <;> first
    | exact wpAny_pure hQ
    | (cases u <;> first
        | exact wpAny_pure hQ
        | (refine wpAny_bind (wpAny_load ho ?_)
           rw [hc,hd]
           show wpAny M A (if (["enumerate","zip","dict_itemiterator","dict_reverseitemiterator","odict_iterator","itertools.zip_longest","itertools.pairwise"].contains n && vs[0]? == some (rawInt _)) = true then _ else _) Q E s
           rw [if_neg (by intro h; rw [hn,Bool.false_and] at h; cases h)]
           exact wpAny_pure hQ))
noncomputable def Itl (K:PySem.W.Frag) (a:Addr):It :=
  ⟨fun i H => ∃ xs x,SqL K H a xs /\ xs[i]? = some x,fun i H x H' => H' = H /\ ∀ xs,SqL K H a xs -> xs[i]? = some x,fun i H => ∃ xs,SqL K H a xs /\ xs.length <= i⟩
noncomputable def Itt (K:PySem.W.Frag) (a:Addr):It :=
  ⟨fun i H => ∃ xs x,SqT K H a xs /\ xs[i]? = some x,fun i H x H' => H' = H /\ ∀ xs,SqT K H a xs -> xs[i]? = some x,fun i H => ∃ xs,SqT K H a xs /\ xs.length <= i⟩
noncomputable def Itr (lo:Int) (n:Nat):It:=⟨fun i _ => i < n,fun i H x H' => H' = H /\ x = .int (lo + i),fun i _ => n <= i⟩
theorem turn_list {P:Program} {w:World} {K:PySem.W.Frag} {tg:Expr} (a it:Addr):Turn P w K tg (Itl K a) [it] it (fun i h => h.IsListIter it a i) where
  mem:=by simp
  obj:=fun i h st b hb => by
    have e:b = it:=by simpa using hb
    subst e
    obtain ⟨o,e,c,d⟩:=st
    exact ⟨o,e,fun v z => by rw [d] at z; cases z⟩
  keep:=fun i h h' st k => st.at fun o e => k it (by simp) o e
  item:=by
    intro X hP hw hK hc i pins s σ H E I hf st hg
    subst hP hw hK
    obtain ⟨xs,x,hq,hx⟩:=hg
    obtain ⟨its,rv,p,hz⟩:=I.list hq
    obtain ⟨u,hu,ru⟩:=rv.get hx
    obtain ⟨f0,f1,f2,f3,f4,f5⟩:=hf it (by simp)
    refine wpAny_pyNext_list_item st p.isList (x:=u) (by simpa using hu) fun h' st' sb => ?_
    have I1:Inv X pins σ H { s with heap:=h' }:=I.turned (t':=s.toks) (fun b o hb e => (sb.2 b hb).trans e) f0 f1 f3 f4 f5
    obtain ⟨o,e,c,d⟩:=id st'
    exact ⟨u,rfl,go_of (s:={ s with heap:=h' }) e c d (by decide) ⟨x,H,I1,ru,⟨rfl,fun ys hy => by rw [I.list_inj hy hq]; exact hx⟩,st',fun b hb => (hf b hb).1⟩⟩
  done:=by
    intro X hP hw hK hc i pins s σ H E I hf st hg
    subst hP hw hK
    obtain ⟨xs,hq,hx⟩:=hg
    obtain ⟨its,rv,p,hz⟩:=I.list hq
    obtain ⟨f0,f1,f2,f3,f4,f5⟩:=hf it (by simp)
    have hl:=rv.length
    exact wpAny_pyNext_list_end (I.ok.hd hc) st p.isList (by simp; omega) fun h' eb => ⟨rfl,I.turned (t':=s.toks) (fun b o hb e => eb b o hb e) f0 f1 f3 f4 f5⟩
  self:=fun _ _ _ _ _ st h => wpAny_pyIter_listiter st h
theorem turn_tuple {P:Program} {w:World} {K:PySem.W.Frag} {tg:Expr} (a it:Addr):Turn P w K tg (Itt K a) [it] it (fun i h => h.IsTupleIter it a i) where
  mem:=by simp
  obj:=fun i h st b hb => by
    have e:b = it:=by simpa using hb
    subst e
    obtain ⟨o,e,c,d⟩:=st
    exact ⟨o,e,fun v z => by rw [d] at z; cases z⟩
  keep:=fun i h h' st k => st.at fun o e => k it (by simp) o e
  item:=by
    intro X hP hw hK hc i pins s σ H E I hf st hg
    subst hP hw hK
    obtain ⟨xs,x,hq,hx⟩:=hg
    obtain ⟨its,rv,p,hz⟩:=I.tuple hq
    obtain ⟨u,hu,ru⟩:=rv.get hx
    obtain ⟨f0,f1,f2,f3,f4,f5⟩:=hf it (by simp)
    refine wpAny_pyNext_tuple_item st (show s.heap.IsTuple a its.toArray from p) (x:=u) (by simpa using hu) fun h' st' sb => ?_
    have I1:Inv X pins σ H { s with heap:=h' }:=I.turned (t':=s.toks) (fun b o hb e => (sb.2 b hb).trans e) f0 f1 f3 f4 f5
    obtain ⟨o,e,c,d⟩:=id st'
    exact ⟨u,rfl,go_of (s:={ s with heap:=h' }) e c d (by decide) ⟨x,H,I1,ru,⟨rfl,fun ys hy => by rw [I.tuple_inj hy hq]; exact hx⟩,st',fun b hb => (hf b hb).1⟩⟩
  done:=by
    intro X hP hw hK hc i pins s σ H E I hf st hg
    subst hP hw hK
    obtain ⟨xs,hq,hx⟩:=hg
    obtain ⟨its,rv,p,hz⟩:=I.tuple hq
    obtain ⟨f0,f1,f2,f3,f4,f5⟩:=hf it (by simp)
    have hl:=rv.length
    exact wpAny_pyNext_tuple_end (I.ok.hd hc) st (show s.heap.IsTuple a its.toArray from p) (by simp; omega) fun h' eb => ⟨rfl,I.turned (t':=s.toks) (fun b o hb e => eb b o hb e) f0 f1 f3 f4 f5⟩
  self:=fun _ _ _ _ _ st h => wpAny_pyIter_tupleiter st h
theorem turn_range {P:Program} {w:World} {K:PySem.W.Frag} {tg:Expr} (it:Addr) (lo:Int) (n:Nat):Turn P w K tg (Itr lo n) [it] it (fun i h => IsRangeIter h it (lo + (i:Nat) * 1) ((n:Int) - (i:Nat)) 1) where
  mem:=by simp
  obj:=fun i h st b hb => by
    have e:b = it:=by simpa using hb
    subst e
    exact ⟨_,st,fun v z => by
      have z':Data.fields _ = Data.cell v:=z
      cases z'⟩
  keep:=fun i h h' st k => k it (by simp) _ st
  item:=by
    intro X hP hw hK hc i pins s σ H E I hf st hg
    subst hP hw hK
    obtain ⟨f0,f1,f2,f3,f4,f5⟩:=hf it (by simp)
    have W:=Walks.range (prog:=X.prog) (w:=X.w) (I.ok.hd hc) it lo 1 n
    refine W.item i s _ _ hg st fun v h' tk hv st' kk => ?_
    obtain ⟨t,rfl⟩:=hv
    have I1:Inv X pins σ H { s with heap:=h',toks:=tk }:=I.turned (fun b o hb e => kk b o (by simpa using hb) e) f0 f1 f3 f4 f5
    refine ⟨_,rfl,go_of (s:={ s with heap:=h',toks:=tk }) (n:="range_iterator") st' rfl rfl (by decide) ⟨.int (lo + i),H,I1,⟨t,?_⟩,⟨rfl,rfl⟩,st',fun b hb => (hf b hb).1⟩⟩
    rw [Int.mul_one]
  done:=by
    intro X hP hw hK hc i pins s σ H E I hf st hg
    subst hP hw hK
    obtain ⟨f0,f1,f2,f3,f4,f5⟩:=hf it (by simp)
    exact wpAny_pyNext_range_end (I.ok.hd hc) st (by have:n <= i:=hg; omega) fun h' eb => ⟨rfl,I.turned (t':=s.toks) (fun b o hb e => eb b o hb e) f0 f1 f3 f4 f5⟩
  self:=fun _ _ _ _ _ st h => wpAny_pyIter_rangeiter st h
end L2
namespace L2
open PySem PySem.Spec PyProof.Rows
section
variable {X:Cx} {tg:Expr}
noncomputable def iList (K:PySem.W.Frag) (tl:TE):TI:=fun σ H R => tl σ H fun x H1 => ∃ a,x = .ref a /\ (∃ xs,SqL K H1 a xs) /\ R (Itl K a) H1
noncomputable def iTup (K:PySem.W.Frag) (tl:TE):TI:=fun σ H R => tl σ H fun x H1 => ∃ a,x = .ref a /\ (∃ xs,SqT K H1 a xs) /\ R (Itt K a) H1
theorem pi_list {l:Expr} {tl:TE} (hl:PE X l tl):PI X tg l (iList X.K tl):=by
  intro pins s σ H R I h
  refine thn (hl pins s σ H _ I h) fun v s1 ⟨x,H1,I1,r1,q1⟩ => ?_
  obtain ⟨a,e,⟨xs,hq⟩,q⟩:=q1
  subst e
  cases r1
  obtain ⟨its,rv,p,hz⟩:=I1.list hq
  refine wpAny_pyIter_list p.isList ?_
  refine ⟨s1.heap.objs.size,[s1.heap.objs.size],_,_,H1,rfl,I1.kept (t':=s1.toks) fun b o e => Heap.get?_push_of_some _ e,turn_list a _,⟨_,Heap.get?_push_size _ rfl,rfl,rfl⟩,fun b hb => ?_,q⟩
  have e:b = s1.heap.objs.size:=by simpa using hb
  subst e
  exact I1.fpOk (Nat.le_refl _) (I1.hok.fresh (Nat.le_refl _))
theorem pi_tup {l:Expr} {tl:TE} (hl:PE X l tl):PI X tg l (iTup X.K tl):=by
  intro pins s σ H R I h
  refine thn (hl pins s σ H _ I h) fun v s1 ⟨x,H1,I1,r1,q1⟩ => ?_
  obtain ⟨a,e,⟨xs,hq⟩,q⟩:=q1
  subst e
  cases r1
  obtain ⟨its,rv,p,hz⟩:=I1.tuple hq
  refine wpAny_pyIter_tuple (show s1.heap.IsTuple a its.toArray from p) ?_
  refine ⟨s1.heap.objs.size,[s1.heap.objs.size],_,_,H1,rfl,I1.kept (t':=s1.toks) fun b o e => Heap.get?_push_of_some _ e,turn_tuple a _,⟨_,Heap.get?_push_size _ rfl,rfl,rfl⟩,fun b hb => ?_,q⟩
  have e:b = s1.heap.objs.size:=by simpa using hb
  subst e
  exact I1.fpOk (Nat.le_refl _) (I1.hok.fresh (Nat.le_refl _))
theorem range_it {pins:List (Addr×Obj)} {σ:St} {H:Hp} {s:Shared} {R:It -> Hp -> Prop} {E:Value -> Shared -> Prop} {lo hi:Int} {t u v:Tok} {tk:Nat} (I:Inv X pins σ H s) (h1:-(2 ^ 62) <= lo) (h2:lo < 2 ^ 62) (h3:-(2 ^ 62) <= hi) (h4:hi < 2 ^ 62)
    (q:R (Itr lo (hi - lo).toNat) H):wpAny (model X.prog X.w) X.A (pyIter (.ref s.heap.objs.size)) (PIE X pins σ tg R) E { s with heap:=s.heap.push { cls:=.type "range",data:=.fields #[.int lo t,.int hi u,.int 1 v] },toks:=tk }:=by
  refine wpAny_pyIter_range (IsRange.new ..) (small_one h1 h2 h3 h4) ?_
  have I1:Inv X pins σ H { s with heap:=s.heap.push { cls:=.type "range",data:=.fields #[.int lo t,.int hi u,.int 1 v] },toks:=tk }:=I.kept fun b o e => Heap.get?_push_of_some _ e
  refine ⟨(s.heap.push { cls:=.type "range",data:=.fields #[.int lo t,.int hi u,.int 1 v] }).objs.size,[(s.heap.push { cls:=.type "range",data:=.fields #[.int lo t,.int hi u,.int 1 v] }).objs.size],_,_,H,rfl,
    I1.kept (t':=tk) fun b o e => Heap.get?_push_of_some _ e,turn_range _ lo (hi - lo).toNat,?_,fun b hb => ?_,q⟩
  . have e1:lo + ((0:Nat):Int) * 1 = lo:=by simp
    have e2:(((hi - lo).toNat:Nat):Int) - ((0:Nat):Int) = Builtin.Range.rangeSize lo hi 1:=by rw [rangeSize_one]; split <;> omega
    show IsRangeIter _ _ (lo + ((0:Nat):Int) * 1) ((((hi - lo).toNat:Nat):Int) - ((0:Nat):Int)) 1
    rw [e1,e2]
    exact Heap.get?_push_size _ rfl
  . have e:b = (s.heap.push { cls:=.type "range",data:=.fields #[.int lo t,.int hi u,.int 1 v] }).objs.size:=by simpa using hb
    subst e
    exact I1.fpOk (Nat.le_refl _) (I1.hok.fresh (Nat.le_refl _))
noncomputable def iRng1 (ta:TA):TI:=fun σ H R => ta σ H fun vs H1 => ∃ j:Int,vs = [.int j] /\ -(2 ^ 62) <= j /\ j < 2 ^ 62 /\ R (Itr 0 j.toNat) H1
noncomputable def iRng2 (ta:TA):TI:=fun σ H R => ta σ H fun vs H1 => ∃ i j:Int,vs = [.int i,.int j] /\ (-(2 ^ 62) <= i /\ i < 2 ^ 62 /\ -(2 ^ 62) <= j /\ j < 2 ^ 62) /\ R (Itr i (j - i).toNat) H1
theorem pi_range1 {a:Expr} {ta:TA} {p pos:Pos} (hg:Gl X "range") (hm:X.mg "range" = none) (ha:PA X [a] ta) (hs:starEach [a] X.env = [(false,eval a X.env)]:=by rfl):PI X tg (.Call (.Name "range" p) [a] [] pos) (iRng1 ta):=by
  intro pins s σ H R I h
  refine Call_ (ld_blt I hg hm boot_range (PyProof.Rows.callWith_type1 (thn (ha pos pins s σ H _ I h) fun us s1 ⟨vs,H1,I1,r1,q1⟩ => ?_) hs rfl))
  obtain ⟨j,e,q1,q2,q⟩:=q1
  subst e
  cases r1 with
  | cons r rr =>
    cases rr
    obtain ⟨t,rfl⟩:=r
    exact call_range_1 (range_it I1 (by omega) (by omega) q1 q2 (by simpa using q))
theorem pi_range2 {a b:Expr} {ta:TA} {p pos:Pos} (hg:Gl X "range") (hm:X.mg "range" = none) (ha:PA X [a,b] ta) (hs:starEach [a,b] X.env = [(false,eval a X.env),(false,eval b X.env)]:=by rfl) (hs2:starEach [b] X.env = [(false,eval b X.env)]:=by rfl) :
    PI X tg (.Call (.Name "range" p) [a,b] [] pos) (iRng2 ta):=by
  intro pins s σ H R I h
  refine Call_ (ld_blt I hg hm boot_range (PyProof.Rows.callWith_type1 (thn (ha pos pins s σ H _ I h) fun us s1 ⟨vs,H1,I1,r1,q1⟩ => ?_) (by rw [hs,hs2]) (by rw [hs2]; rfl)))
  obtain ⟨i,j,e,⟨q1,q2,q3,q4⟩,q⟩:=q1
  subst e
  cases r1 with
  | cons r rr =>
    cases rr with
    | cons r' rr =>
      cases rr
      obtain ⟨t,rfl⟩:=r
      obtain ⟨t',rfl⟩:=r'
      exact call_range_2 (range_it I1 q1 q2 q3 q4 q)
noncomputable def tFor (wi:TI) (g:TG) (tb:TS):TS:=fun D σ H => wi σ H fun J H1 => ∃ W:Nat -> Nat -> St -> Hp -> Prop,(∃ m,W 0 m σ H1) /\ ∀ i m σ H,W i m σ H ->
  (J.stop i H /\ D.nx σ H) ∨ (J.go i H /\ ∃ N:St -> Hp -> Prop,(∀ σ' H',N σ' H' -> ∃ m',m' < m /\ W (i + 1) m' σ' H') /\ ∀ x H',J.yld i H x H' -> g x σ H' fun σ2 H2 => tb { D with nx:=N,ct:=N,bk:=D.nx } σ2 H2)
noncomputable def pinsAt (fp:List Addr) (h:Heap):List (Addr×Obj):=fp.filterMap fun b => (h.get? b).map fun o => (b,o)
theorem mem_pinsAt {fp:List Addr} {h:Heap} {b:Addr} {o:Obj} (hb:b ∈ fp) (e:h.get? b = some o):(b,o) ∈ pinsAt fp h:=List.mem_filterMap.mpr ⟨b,hb,by rw [e]; rfl⟩
theorem of_pinsAt {fp:List Addr} {h:Heap} {p:Addr×Obj} (hp:p ∈ pinsAt fp h):p.1 ∈ fp /\ h.get? p.1 = some p.2:=by
  obtain ⟨b,hb,e⟩:=List.mem_filterMap.mp hp
  cases q:h.get? b with
  | none => rw [q] at e; cases e
  | some o =>
    rw [q] at e
    have e':(b,o) = p:=Option.some.inj e
    subst e'
    exact ⟨hb,q⟩
theorem Inv.pinned {pins:List (Addr×Obj)} {σ:St} {H:Hp} {s:Shared} {fp:List Addr} (I:Inv X pins σ H s) (hf:∀ b ∈ fp,FpOk X pins H b) (ho:∀ b ∈ fp,∃ o,s.heap.get? b = some o /\ ∀ v,o.data ≠ .cell v):Inv X (pins ++ pinsAt fp s.heap) σ H s :=
  I.pins_of fun p hp => (List.mem_append.mp hp).elim (fun z => I.pin p (List.mem_append_right _ z)) fun z => by
    obtain ⟨hb,e⟩:=of_pinsAt z
    obtain ⟨f0,f1,f2,_⟩:=hf p.1 hb
    obtain ⟨o,e',d⟩:=ho p.1 hb
    rw [e] at e'; cases e'
    exact ⟨e,f0,f1,f2,d⟩
theorem Inv.unpinned {pins pl:List (Addr×Obj)} {σ:St} {H:Hp} {s:Shared} (I:Inv X (pins ++ pl) σ H s):Inv X pins σ H s:=I.pins_of fun p hp => I.pin p (List.mem_append_right _ (List.mem_append_left _ hp))
theorem ps_for {iter:Expr} {body:List Stmt} {wi:TI} {g:TG} {tb:TS} {pos:Pos} (hp:PassesOwn (model X.prog X.w) X.A X.env X.xe) (hc:X.calm = true) (hi:PI X tg iter wi) (hg:PG X tg g) (hb:PSs X body tb)
    (hs:∀ x,foldedSetIterable iter X.env x = pure x:=by intro _; rfl):PS X (.For tg iter body [] pos) (tFor wi g tb):=by
  intro pins s σ H D I h
  refine wpAny_For (thn (hi pins s σ H _ I h) fun v s1 h1 => thn h1 fun itv s2 h2 => ?_) hs
  obtain ⟨it,fp,tn,J,H2,e,I2,T,st2,f2,W,⟨m0,w0⟩,turn⟩:=h2
  subst e
  -- what stays true of the iterator's objects through the loop
  have stat:∀ {H':Hp},(∀ b ∈ fp,H' b = none) -> ∀ b ∈ fp,FpOk X pins H' b:=fun hn b hb => ⟨hn b hb,(f2 b hb).2⟩
  refine codeAny_forLoop_any (fun n s' => ∃ i σ' H',Inv X pins σ' H' s' /\ tn i s'.heap /\ (∀ b ∈ fp,H' b = none) /\ W i n σ' H') ?_ m0 ⟨0,σ,H2,I2,st2,fun b hb => (f2 b hb).1,w0⟩
  rintro n s3 ⟨i,σ3,H3,I3,st3,fr3,w3⟩
  rcases turn i n σ3 H3 w3 with ⟨stop,qn⟩ | ⟨go,N,hN,step⟩
  . refine wpAny_passesOwn hp (thn (T.done X rfl rfl rfl hc i pins s3 σ3 H3 X.xe I3 (stat fr3) st3 stop) fun r s4 ⟨hr,I4⟩ => ?_)
    subst hr
    exact wpAny_execs_nil ⟨σ3,H3,I4,qn⟩
  . refine wpAny_passesOwn hp (thn (T.item X rfl rfl rfl hc i pins s3 σ3 H3 X.xe I3 (stat fr3) st3 go) fun r s4 ⟨u,hr,h4⟩ => ?_)
    subst hr
    refine wpAny_passesOwn hp (thn h4 fun _ s5 ⟨x,H5,I5,r5,y5,st5,fr5⟩ => ?_)
    have I5':=I5.pinned (stat fr5) (T.obj _ _ st5)
    refine wpAny_passesOwn hp (thn (hg _ s5 σ3 H5 x u _ I5' r5 (step x H5 y5)) fun _ s6 ⟨σ6,H6,I6,q6⟩ => ?_)
    refine wpAny_passesOwn hp (thn (hb _ s6 σ6 H6 _ I6 q6) fun f s7 q7 => ?_)
    have again:∀ {σ7:St} {H7:Hp},Inv X (pins ++ pinsAt fp s5.heap) σ7 H7 s7 -> N σ7 H7 -> ∃ m,m < n /\ ∃ i σ' H',Inv X pins σ' H' s7 /\ tn i s7.heap /\ (∀ b ∈ fp,H' b = none) /\ W i m σ' H':=fun {σ7 H7} I7 n7 => by
      obtain ⟨m',hm,w7⟩:=hN σ7 H7 n7
      refine ⟨m',hm,i + 1,σ7,H7,I7.unpinned,T.keep _ _ _ st5 fun b hb o e => (I7.pin (b,o) (List.mem_append_right _ (List.mem_append_right _ (mem_pinsAt hb e)))).1,fun b hb => ?_,w7⟩
      obtain ⟨o,e,d⟩:=T.obj _ _ st5 b hb
      exact (I7.pin (b,o) (List.mem_append_right _ (List.mem_append_right _ (mem_pinsAt hb e)))).2.1
    cases f with
    | next => obtain ⟨σ7,H7,I7,n7⟩:=q7; exact again I7 n7
    | cont => obtain ⟨σ7,H7,I7,n7⟩:=q7; exact again I7 n7
    | brk => obtain ⟨σ7,H7,I7,q7⟩:=q7; exact ⟨σ7,H7,I7.unpinned,q7⟩
    | ret v => obtain ⟨x7,σ7,H7,I7,r7,q7⟩:=q7; exact ⟨x7,σ7,H7,I7.unpinned,r7,q7⟩
end
theorem for_list {K:PySem.W.Frag} {a:Addr} {xs:List V} {g:TG} {tb:TS} {D:Ends} {σ:St} {H:Hp} (Pv:Nat -> St -> Hp -> Prop) (h0:Pv 0 σ H) (hl:∀ i σ H,i <= xs.length -> Pv i σ H -> SqL K H a xs)
    (hs:∀ i x σ H,xs[i]? = some x -> Pv i σ H -> g x σ H fun σ2 H2 => tb { D with nx:=Pv (i + 1),ct:=Pv (i + 1),bk:=D.nx } σ2 H2) (hd:∀ σ H,Pv xs.length σ H -> D.nx σ H) :
    ∃ W:Nat -> Nat -> St -> Hp -> Prop,(∃ m,W 0 m σ H) /\ ∀ i m σ H,W i m σ H ->
      ((Itl K a).stop i H /\ D.nx σ H) ∨ ((Itl K a).go i H /\ ∃ N:St -> Hp -> Prop,(∀ σ' H',N σ' H' -> ∃ m',m' < m /\ W (i + 1) m' σ' H') /\ ∀ x H',(Itl K a).yld i H x H' -> g x σ H' fun σ2 H2 => tb { D with nx:=N,ct:=N,bk:=D.nx } σ2 H2):=by
  refine ⟨fun i m σ H => m = xs.length - i /\ i <= xs.length /\ Pv i σ H,⟨xs.length,by simp,Nat.zero_le _,h0⟩,?_⟩
  rintro i m σ H ⟨rfl,hi,p⟩
  have q:=hl i σ H hi p
  by_cases hlt:i < xs.length
  . refine .inr ⟨⟨xs,xs[i],q,by simp [hlt]⟩,Pv (i + 1),fun σ' H' p' => ⟨xs.length - (i + 1),by omega,rfl,hlt,p'⟩,fun x H' y => ?_⟩
    obtain ⟨e,y⟩:=y
    subst e
    exact hs i x σ _ (y xs q) p
  . have e:i = xs.length:=by omega
    subst e
    exact .inl ⟨⟨xs,q,Nat.le_refl _⟩,hd σ H p⟩
theorem for_range {lo:Int} {n:Nat} {g:TG} {tb:TS} {D:Ends} {σ:St} {H:Hp} (Pv:Nat -> St -> Hp -> Prop) (h0:Pv 0 σ H)
    (hs:∀ i σ H,i < n -> Pv i σ H -> g (.int (lo + i)) σ H fun σ2 H2 => tb { D with nx:=Pv (i + 1),ct:=Pv (i + 1),bk:=D.nx } σ2 H2) (hd:∀ σ H,Pv n σ H -> D.nx σ H) :
    ∃ W:Nat -> Nat -> St -> Hp -> Prop,(∃ m,W 0 m σ H) /\ ∀ i m σ H,W i m σ H ->
      ((Itr lo n).stop i H /\ D.nx σ H) ∨ ((Itr lo n).go i H /\ ∃ N:St -> Hp -> Prop,(∀ σ' H',N σ' H' -> ∃ m',m' < m /\ W (i + 1) m' σ' H') /\ ∀ x H',(Itr lo n).yld i H x H' -> g x σ H' fun σ2 H2 => tb { D with nx:=N,ct:=N,bk:=D.nx } σ2 H2):=by
  refine ⟨fun i m σ H => m = n - i /\ i <= n /\ Pv i σ H,⟨n,by simp,Nat.zero_le _,h0⟩,?_⟩
  rintro i m σ H ⟨rfl,hi,p⟩
  by_cases hlt:i < n
  . refine .inr ⟨hlt,Pv (i + 1),fun σ' H' p' => ⟨n - (i + 1),by omega,rfl,hlt,p'⟩,fun x H' y => ?_⟩
    obtain ⟨e,y⟩:=y
    subst e y
    exact hs i σ _ hlt p
  . have e:i = n:=by omega
    subst e
    exact .inl ⟨Nat.le_refl _,hd σ H p⟩
theorem while_by {c:TT} {tb:TS} {D:Ends} {σ:St} {H:Hp} (Pv:St -> Hp -> Prop) (μ:St -> Hp -> Nat) (h0:Pv σ H)
    (hs:∀ σ H,Pv σ H -> c σ H fun b H1 => if b = true then tb { D with nx:=fun σ' H' => Pv σ' H' /\ μ σ' H' < μ σ H,ct:=fun σ' H' => Pv σ' H' /\ μ σ' H' < μ σ H,bk:=D.nx } σ H1 else D.nx σ H1)
    (mono:∀ σ H Q Q',(∀ b H1,Q b H1 -> Q' b H1) -> c σ H Q -> c σ H Q'):tWhile c tb D σ H:=by
  refine ⟨fun m σ H => m = μ σ H /\ Pv σ H,⟨_,rfl,h0⟩,?_⟩
  rintro m σ H ⟨rfl,p⟩
  refine mono σ H _ _ (fun b H1 q => ?_) (hs σ H p)
  cases b with
  | true => exact ⟨_,fun σ' H' ⟨p',l⟩ => ⟨_,l,rfl,p'⟩,q⟩
  | false => exact q
end L2
namespace L2
open PySem PySem.Spec PyProof.Rows
noncomputable abbrev R2:=V -> V -> Hp -> VK -> Prop
noncomputable def OpR (X:Cx) (f:Value -> Value -> Sem Value) (r:R2):Prop :=
  ∀ (pins:List (Addr×Obj)) (s:Shared) (σ:St) (H:Hp) (x y:V) (v u:Value) (Q:VK),Inv X pins σ H s -> RelV x v -> RelV y u -> r x y H Q ->
    wpAny (model X.prog X.w) X.A (f v u) (EP X pins σ Q) X.xe s
noncomputable def UnR (X:Cx) (f:Value -> Sem Value) (r:V -> Hp -> VK -> Prop):Prop :=
  ∀ (pins:List (Addr×Obj)) (s:Shared) (σ:St) (H:Hp) (x:V) (v:Value) (Q:VK),Inv X pins σ H s -> RelV x v -> r x H Q ->
    wpAny (model X.prog X.w) X.A (f v) (EP X pins σ Q) X.xe s
noncomputable def CallR (X:Cx) (f:Value) (r:List V -> Hp -> VK -> Prop):Prop :=
  ∀ (pins:List (Addr×Obj)) (s:Shared) (σ:St) (H:Hp) (xs:List V) (us:List Value) (Q:VK),Inv X pins σ H s -> Vals xs us -> r xs H Q ->
    wpAny (model X.prog X.w) X.A (call f us) (EP X pins σ Q) X.xe s
noncomputable def tOp (r:R2) (ta tb:TE):TE:=fun σ H Q => ta σ H fun x H1 => tb σ H1 fun y H2 => r x y H2 Q
noncomputable def tUn (r:V -> Hp -> VK -> Prop) (ta:TE):TE:=fun σ H Q => ta σ H fun x H1 => r x H1 Q
noncomputable def rI (C:Int -> Int -> Prop) (g:Int -> Int -> V):R2:=fun x y H Q => ∃ i j,x = .int i /\ y = .int j /\ C i j /\ Q (g i j) H
noncomputable def rI0 (g:Int -> Int -> V):R2:=fun x y H Q => ∃ i j,x = .int i /\ y = .int j /\ Q (g i j) H
noncomputable def rU (g:Int -> V):V -> Hp -> VK -> Prop:=fun x H Q => ∃ i,x = .int i /\ Q (g i) H
section
variable {X:Cx} {a b c:Expr} {ta tb tc:TE} {pos:Pos}
theorem binT (ha:PE X a ta) (hb:PE X b tb) {pins:List (Addr×Obj)} {s:Shared} {σ:St} {H:Hp} {R:V -> V -> Hp -> Prop} (I:Inv X pins σ H s)
    (h:ta σ H fun x H1 => tb σ H1 fun y H2 => R x y H2) {Q:Value -> Shared -> Prop} {f:Value -> Value -> Sem Value}
    (hf:∀ v u s2 x y H2,Inv X pins σ H2 s2 -> RelV x v -> RelV y u -> R x y H2 -> wpAny (model X.prog X.w) X.A (f v u) Q X.xe s2) :
    wpAny (model X.prog X.w) X.A (eval a X.env) (fun v s₁ => wpAny (model X.prog X.w) X.A (eval b X.env) (fun u s₂ => wpAny (model X.prog X.w) X.A (f v u) Q X.xe s₂) X.xe s₁) X.xe s:=by
  refine thn (ha pins s σ H _ I h) fun v s1 ⟨x,H1,I1,r1,q1⟩ => ?_
  refine thn (hb pins s1 σ H1 _ I1 q1) fun u s2 ⟨y,H2,I2,r2,q2⟩ => ?_
  exact hf v u s2 x y H2 I2 r1 r2 q2
theorem pe_op {op:Operator} {r:R2} (ho:OpR X (binaryOp op) r) (ha:PE X a ta) (hb:PE X b tb):PE X (.BinOp a op b pos) (tOp r ta tb):=by
  intro pins s σ H Q I h
  exact wpAny_BinOp (binT ha hb I h fun v u s2 x y H2 I2 rx ry q => ho pins s2 σ H2 x y v u Q I2 rx ry q)
theorem pe_un {op:UnaryOp} {r:V -> Hp -> VK -> Prop} (ho:UnR X (unaryOp op) r) (ha:PE X a ta):PE X (.UnaryOp op a pos) (tUn r ta):=by
  intro pins s σ H Q I h
  exact UnaryOp_ (thn (ha pins s σ H _ I h) fun v s1 ⟨x,H1,I1,r1,q1⟩ => ho pins s1 σ H1 x v Q I1 r1 q1)
theorem opI {f:Value -> Value -> Sem Value} {C:Int -> Int -> Prop} {g:Int -> Int -> Int}
    (rule:∀ (i j:Int) (t u:Tok) (s:Shared) (Q:Value -> Shared -> Prop) (E:Value -> Shared -> Prop),C i j -> Q (.int (g i j) s.toks) { s with toks:=s.toks + 1 } -> wpAny (model X.prog X.w) X.A (f (.int i t) (.int j u)) Q E s) :
    OpR X f (rI C fun i j => .int (g i j)):=by
  intro pins s σ H x y v u Q I rx ry h
  obtain ⟨i,j,rfl,rfl,hc,q⟩:=h
  obtain ⟨t,rfl⟩:=rx
  obtain ⟨t',rfl⟩:=ry
  exact rule i j t t' s _ _ hc ⟨.int (g i j),H,I.tok _,⟨_,rfl⟩,q⟩
theorem opI0 {f:Value -> Value -> Sem Value} {g:Int -> Int -> Int}
    (rule:∀ (i j:Int) (t u:Tok) (s:Shared) (Q:Value -> Shared -> Prop) (E:Value -> Shared -> Prop),Q (.int (g i j) s.toks) { s with toks:=s.toks + 1 } -> wpAny (model X.prog X.w) X.A (f (.int i t) (.int j u)) Q E s) :
    OpR X f (rI0 fun i j => .int (g i j)):=by
  intro pins s σ H x y v u Q I rx ry h
  obtain ⟨i,j,rfl,rfl,q⟩:=h
  obtain ⟨t,rfl⟩:=rx
  obtain ⟨t',rfl⟩:=ry
  exact rule i j t t' s _ _ ⟨.int (g i j),H,I.tok _,⟨_,rfl⟩,q⟩
theorem opB0 {f:Value -> Value -> Sem Value} {g:Int -> Int -> Bool}
    (rule:∀ (i j:Int) (t u:Tok) (s:Shared) (Q:Value -> Shared -> Prop) (E:Value -> Shared -> Prop),Q (.bool (g i j)) s -> wpAny (model X.prog X.w) X.A (f (.int i t) (.int j u)) Q E s) :
    OpR X f (rI0 fun i j => .bl (g i j)):=by
  intro pins s σ H x y v u Q I rx ry h
  obtain ⟨i,j,rfl,rfl,q⟩:=h
  obtain ⟨t,rfl⟩:=rx
  obtain ⟨t',rfl⟩:=ry
  exact rule i j t t' s _ _ ⟨.bl (g i j),H,I,rfl,q⟩
noncomputable def CPow (i j:Int):Prop:=0 <= j /\ j <= 1000000 /\ i.natAbs < 2 ^ 64
noncomputable def CMul (i j:Int):Prop:=(-(2 ^ 64) < i /\ i < 2 ^ 64) ∨ (-(2 ^ 64) < j /\ j < 2 ^ 64)
theorem CMul.ok {i j:Int} (h:CMul i j):IntMulOk i j:=by
  rcases h with ⟨h1,h2⟩ | ⟨h1,h2⟩
  . exact .of_left (intBits_le_64 h1 h2)
  . exact .of_right (intBits_le_64 h1 h2)
theorem op_add:OpR X (binaryOp .Add) (rI0 fun i j => .int (i + j)):=opI0 fun _ _ _ _ _ _ _ q => add_int q
theorem op_sub:OpR X (binaryOp .Sub) (rI0 fun i j => .int (i - j)):=opI0 fun _ _ _ _ _ _ _ q => sub_int q
theorem op_mod:OpR X (binaryOp .Mod) (rI (fun _ j => 0 < j) fun i j => .int (i % j)):=opI fun i j _ _ _ _ _ hc q => by
  have h1:(0:Int) < j:=hc
  exact mod_int' (by omega) (by rw [Int.fmod_eq_emod_of_nonneg i (by omega)]; exact q)
theorem op_modN:OpR X (binaryOp .Mod) (rI (fun _ j => j ≠ 0) fun i j => .int (i.fmod j)):=opI fun _ _ _ _ _ _ _ hc q => mod_int' hc q
theorem op_pow:OpR X (binaryOp .Pow) (rI CPow fun i j => .int (i ^ j.toNat)):=opI fun _ _ _ _ _ _ _ hc q => pow_int_small hc.1 hc.2.1 hc.2.2 q
theorem unI {f:Value -> Sem Value} {g:Int -> Int}
    (rule:∀ (i:Int) (t:Tok) (s:Shared) (Q:Value -> Shared -> Prop) (E:Value -> Shared -> Prop),Q (.int (g i) s.toks) { s with toks:=s.toks + 1 } -> wpAny (model X.prog X.w) X.A (f (.int i t)) Q E s) :
    UnR X f (rU fun i => .int (g i)):=by
  intro pins s σ H x v Q I rx h
  obtain ⟨i,rfl,q⟩:=h
  obtain ⟨t,rfl⟩:=rx
  exact rule i t s _ _ ⟨.int (g i),H,I.tok _,⟨_,rfl⟩,q⟩
theorem un_neg:UnR X (unaryOp .USub) (rU fun i => .int (-i)):=unI fun _ _ _ _ _ q => neg_int q
end
noncomputable def scal:V -> V -> Bool
  | .non,.non => true | .non,.int _ => true | .int _,.non => true | .non,.bl _ => true | .bl _,.non => true | .non,.str _ => true | .str _,.non => true
  | .int _,.int _ => true | .bl _,.bl _ => true | .str _,.str _ => true | .byt _,.byt _ => true
  | .int _,.str _ => true | .str _,.int _ => true | .bl _,.str _ => true | .str _,.bl _ => true
  | _,_ => false
noncomputable def rEq:R2:=fun x y H Q => scal x y = true /\ Q (.bl (decide (x = y))) H
noncomputable def rNe:R2:=fun x y H Q => scal x y = true /\ Q (.bl (!decide (x = y))) H
theorem dec_int {i j:Int}:decide (V.int i = V.int j) = (i == j):=by
  rw [Bool.eq_iff_iff]
  simp
theorem dec_bl {i j:Bool}:decide (V.bl i = V.bl j) = (i == j):=by
  rw [Bool.eq_iff_iff]
  simp
theorem dec_str {i j:Str}:decide (V.str i = V.str j) = (i == j):=by
  rw [Bool.eq_iff_iff]
  simp
theorem dec_byt {i j:Array UInt8}:decide (V.byt i = V.byt j) = (i.toList == j.toList):=by
  rw [Bool.eq_iff_iff]
  cases i
  cases j
  simp
section
variable {X:Cx} {a b c:Expr} {ta tb tc:TE} {pos:Pos}
theorem fin_bl {pins:List (Addr×Obj)} {σ:St} {H:Hp} {s:Shared} {Q:VK} {k k':Bool} (I:Inv X pins σ H s) (q:Q (.bl k) H) (e:k = k'):EP X pins σ Q (.bool k') s:=by
  subst e
  exact ⟨.bl k,H,I,rfl,q⟩
theorem op_eq:OpR X (compareOp .Eq) rEq:=by
  intro pins s σ H x y v u Q I rx ry h
  obtain ⟨hs,q⟩:=h
  cases x with
  | non =>
    cases rx
    cases y with
    | non => cases ry; exact PySem.EqNone.eq_none_none (fin_bl I q (by simp))
    | bl j => cases ry; exact PySem.EqNone.eq_none_bool (fin_bl I q (by simp))
    | int j => obtain ⟨t',rfl⟩:=ry; exact PySem.EqNone.eq_none_int (fin_bl I q (by simp))
    | str j => obtain ⟨t',rfl⟩:=ry; exact PySem.EqNone.eq_none_str (fin_bl I q (by simp))
    | _ => exact absurd (show false = true from hs) Bool.false_ne_true
  | bl i =>
    cases rx
    cases y with
    | non => cases ry; exact PySem.EqNone.eq_bool_none (fin_bl I q (by simp))
    | bl j => cases ry; exact eq_bool (fin_bl I q dec_bl)
    | str j => obtain ⟨t',rfl⟩:=ry; exact PySem.EqMixed.eq_bool_str (fin_bl I q (by simp))
    | _ => exact absurd (show false = true from hs) Bool.false_ne_true
  | int i =>
    obtain ⟨t,rfl⟩:=rx
    cases y with
    | non => cases ry; exact PySem.EqNone.eq_int_none (fin_bl I q (by simp))
    | int j => obtain ⟨t',rfl⟩:=ry; exact eq_int (fin_bl I q dec_int)
    | str j => obtain ⟨t',rfl⟩:=ry; exact PySem.EqMixed.eq_int_str (fin_bl I q (by simp))
    | _ => exact absurd (show false = true from hs) Bool.false_ne_true
  | str i =>
    obtain ⟨t,rfl⟩:=rx
    cases y with
    | non => cases ry; exact PySem.EqNone.eq_str_none (fin_bl I q (by simp))
    | bl j => cases ry; exact PySem.EqMixed.eq_str_bool (fin_bl I q (by simp))
    | int j => obtain ⟨t',rfl⟩:=ry; exact PySem.EqMixed.eq_str_int (fin_bl I q (by simp))
    | str j => obtain ⟨t',rfl⟩:=ry; exact eq_str (fin_bl I q dec_str)
    | _ => exact absurd (show false = true from hs) Bool.false_ne_true
  | byt i =>
    obtain ⟨t,rfl⟩:=rx
    cases y with
    | byt j => obtain ⟨t',rfl⟩:=ry; exact PySem.W.eq_bytes (fin_bl I q dec_byt)
    | _ => exact absurd (show false = true from hs) Bool.false_ne_true
  | _ => cases y <;> exact absurd (show false = true from hs) Bool.false_ne_true
theorem op_ne:OpR X (compareOp .NotEq) rNe:=by
  intro pins s σ H x y v u Q I rx ry h
  obtain ⟨hs,q⟩:=h
  cases x with
  | non =>
    cases rx
    cases y with
    | non => cases ry; exact PySem.EqNone.ne_none_none (fin_bl I q (by simp))
    | bl j => cases ry; exact PySem.EqNone.ne_none_bool (fin_bl I q (by simp))
    | int j => obtain ⟨t',rfl⟩:=ry; exact PySem.EqNone.ne_none_int (fin_bl I q (by simp))
    | str j => obtain ⟨t',rfl⟩:=ry; exact PySem.EqNone.ne_none_str (fin_bl I q (by simp))
    | _ => exact absurd (show false = true from hs) Bool.false_ne_true
  | bl i =>
    cases rx
    cases y with
    | non => cases ry; exact PySem.EqNone.ne_bool_none (fin_bl I q (by simp))
    | bl j => cases ry; exact ne_bool (fin_bl I q (congrArg not dec_bl))
    | str j => obtain ⟨t',rfl⟩:=ry; exact PySem.EqMixed.ne_bool_str (fin_bl I q (by simp))
    | _ => exact absurd (show false = true from hs) Bool.false_ne_true
  | int i =>
    obtain ⟨t,rfl⟩:=rx
    cases y with
    | non => cases ry; exact PySem.EqNone.ne_int_none (fin_bl I q (by simp))
    | int j => obtain ⟨t',rfl⟩:=ry; exact ne_int (fin_bl I q (congrArg not dec_int))
    | str j => obtain ⟨t',rfl⟩:=ry; exact PySem.EqMixed.ne_int_str (fin_bl I q (by simp))
    | _ => exact absurd (show false = true from hs) Bool.false_ne_true
  | str i =>
    obtain ⟨t,rfl⟩:=rx
    cases y with
    | non => cases ry; exact PySem.EqNone.ne_str_none (fin_bl I q (by simp))
    | bl j => cases ry; exact PySem.EqMixed.ne_str_bool (fin_bl I q (by simp))
    | int j => obtain ⟨t',rfl⟩:=ry; exact PySem.EqMixed.ne_str_int (fin_bl I q (by simp))
    | str j => obtain ⟨t',rfl⟩:=ry; exact ne_str (fin_bl I q (congrArg not dec_str))
    | _ => exact absurd (show false = true from hs) Bool.false_ne_true
  | byt i =>
    obtain ⟨t,rfl⟩:=rx
    cases y with
    | byt j => obtain ⟨t',rfl⟩:=ry; exact PySem.W.ne_bytes (fin_bl I q (congrArg not dec_byt))
    | _ => exact absurd (show false = true from hs) Bool.false_ne_true
  | _ => cases y <;> exact absurd (show false = true from hs) Bool.false_ne_true
theorem op_lt:OpR X (compareOp .Lt) (rI0 fun i j => .bl (decide (i < j))):=opB0 fun _ _ _ _ _ _ _ q => lt_int q
theorem op_le:OpR X (compareOp .LtE) (rI0 fun i j => .bl (decide (i <= j))):=opB0 fun _ _ _ _ _ _ _ q => le_int q
theorem op_gt:OpR X (compareOp .Gt) (rI0 fun i j => .bl (decide (j < i))):=opB0 fun _ _ _ _ _ _ _ q => gt_int q
theorem op_ge:OpR X (compareOp .GtE) (rI0 fun i j => .bl (decide (j <= i))):=opB0 fun _ _ _ _ _ _ _ q => ge_int q
theorem op_isN:OpR X (compareOp .Is) (fun x y H Q => y = .non /\ Q (.bl (decide (x = .non))) H):=by
  intro pins s σ H x y v u Q I rx ry h
  obtain ⟨rfl,q⟩:=h
  cases ry
  refine is_none_gen (fin_bl I q ?_)
  cases x <;> first
    | (cases rx; rfl)
    | (obtain ⟨t,rfl⟩:=rx; rfl)
theorem OpR.or {f:Value -> Value -> Sem Value} {r r':R2} (h:OpR X f r) (h':OpR X f r'):OpR X f (fun x y H Q => r x y H Q ∨ r' x y H Q):=by
  intro pins s σ H x y v u Q I rx ry q
  rcases q with q | q
  . exact h pins s σ H x y v u Q I rx ry q
  . exact h' pins s σ H x y v u Q I rx ry q
theorem nomark (b:Expr) {op:CmpOp} (h:op ≠ .In:=by decide) (h2:op ≠ .NotIn:=by decide):behindInMarks op b = false:=by
  have e1:(op == CmpOp.In) = false:=by cases op <;> first | rfl | exact absurd rfl h
  have e2:(op == CmpOp.NotIn) = false:=by cases op <;> first | rfl | exact absurd rfl h2
  cases b <;> simp [behindInMarks,e1,e2]
theorem pe_cmpR {op:CmpOp} {r:R2} (ho:OpR X (compareOp op) r) (ha:PE X a ta) (hb:PE X b tb) (hm:behindInMarks op b = false):PE X (.Compare a [op] [b] pos) (tOp r ta tb):=by
  intro pins s σ H Q I h
  exact wpAny_Compare1 (binT ha hb I h fun v u s2 x y H2 I2 rx ry q => ho pins s2 σ H2 x y v u Q I2 rx ry q) hm
noncomputable def tTest (t:TE):TT:=fun σ H Q => t σ H fun x H' => ∃ k,x = .bl k /\ Q k H'
theorem pt_cmpR {op:CmpOp} {r:R2} (ho:OpR X (compareOp op) r) (ha:PE X a ta) (hb:PE X b tb) (hm:behindInMarks op b = false):PT X (.Compare a [op] [b] pos) (tTest (tOp r ta tb)):=by
  intro pins s σ H Q I h
  refine wpAny_isTrue_Compare1 (thn (ha pins s σ H _ I h) fun v s1 ⟨x,H1,I1,r1,q1⟩ => thn (hb pins s1 σ H1 _ I1 q1) fun u s2 ⟨y,H2,I2,r2,q2⟩ =>
    thn (ho pins s2 σ H2 x y v u _ I2 r1 r2 q2) fun c s3 ⟨z,H3,I3,r3,k,e,q3⟩ => ?_) hm
  subst e
  cases r3
  exact wpAny_truthy_bool ⟨H3,I3,q3⟩
noncomputable def tChain (r r':R2) (ta tb tc:TE):TE:=fun σ H Q => ta σ H fun x H1 => tb σ H1 fun y H2 => r x y H2 fun z H3 => ∃ k,z = .bl k /\
  (if k = true then tc σ H3 fun w' H4 => r' y w' H4 Q else Q (.bl false) H3)
theorem pe_chain {op op':CmpOp} {r r':R2} (ho:OpR X (compareOp op) r) (ho':OpR X (compareOp op') r') (ha:PE X a ta) (hb:PE X b tb) (hc:PE X c tc)
    (hm:lastMarks [op,op'] [b,c] = false:=by with_unfolding_all rfl):PE X (.Compare a [op,op'] [b,c] pos) (tChain r r' ta tb tc):=by
  intro pins s σ H Q I h
  refine Compare_chain (thn (ha pins s σ H _ I h) fun v s1 ⟨x,H1,I1,r1,q1⟩ => chain_link (thn (hb pins s1 σ H1 _ I1 q1) fun u s2 ⟨y,H2,I2,r2,q2⟩ =>
    thn (ho pins s2 σ H2 x y v u _ I2 r1 r2 q2) fun d s3 ⟨z,H3,I3,r3,k,e,q3⟩ => ?_)) hm
  subst e
  cases r3
  refine wpAny_truthy_bool ?_
  cases k with
  | false => exact ite_ff ⟨.bl false,H3,I3,rfl,q3⟩
  | true => exact ite_tt (chain_last (thn (hc pins s3 σ H3 _ I3 q3) fun w' s4 ⟨z',H4,I4,r4,q4⟩ => ho' pins s4 σ H4 y z' u w' Q I4 r2 r4 q4))
theorem pt_chain {op op':CmpOp} {r r':R2} (ho:OpR X (compareOp op) r) (ho':OpR X (compareOp op') r') (ha:PE X a ta) (hb:PE X b tb) (hc:PE X c tc)
    (hm:lastMarks [op,op'] [b,c] = false:=by with_unfolding_all rfl):PT X (.Compare a [op,op'] [b,c] pos) (tTest (tChain r r' ta tb tc)):=by
  intro pins s σ H Q I h
  refine isTrue_chain (thn (ha pins s σ H _ I h) fun v s1 ⟨x,H1,I1,r1,q1⟩ => test_link (thn (hb pins s1 σ H1 _ I1 q1) fun u s2 ⟨y,H2,I2,r2,q2⟩ =>
    thn (ho pins s2 σ H2 x y v u _ I2 r1 r2 q2) fun d s3 ⟨z,H3,I3,r3,k,e,q3⟩ => ?_)) hm
  subst e
  cases r3
  refine wpAny_truthy_bool ?_
  cases k with
  | false =>
    obtain ⟨k',e',q'⟩:=q3
    cases e'
    exact ite_ff ⟨H3,I3,q'⟩
  | true =>
    refine ite_tt (test_last (thn (hc pins s3 σ H3 _ I3 q3) fun w' s4 ⟨z',H4,I4,r4,q4⟩ => thn (ho' pins s4 σ H4 y z' u w' _ I4 r2 r4 q4) fun d' s5 ⟨z2,H5,I5,r5,k2,e2,q5⟩ => ?_))
    subst e2
    cases r5
    exact wpAny_truthy_bool ⟨H5,I5,q5⟩
noncomputable def TruV (K:PySem.W.Frag) (x:V) (H:Hp) (k:Bool):Prop :=
  match x with
  | .non => k = false
  | .bl b => k = b
  | .int i => k = (i != 0)
  | .str y => y.length <= sizeLine /\ k = ((y.length:Int) != 0)
  | .byt y => y.size <= sizeLine /\ k = ((y.size:Int) != 0)
  | .ref p => (∃ xs,SqL K H p xs /\ k = !xs.isEmpty) ∨ (∃ xs,SqT K H p xs /\ k = !xs.isEmpty) ∨ ∃ kvs,H p = some (.dK kvs) /\ k = !kvs.isEmpty
  | _ => False
theorem line63:(sizeLine:Nat) < 2 ^ 63:=by rw [sizeLine_eq]; decide
theorem op_add_str:OpR X (binaryOp .Add) (fun x y H Q => ∃ i j,x = .str i /\ y = .str j /\ i.length + j.length <= sizeLine /\ Q (.str (i ++ j)) H):=by
  intro pins s σ H x y v u Q I rx ry h
  obtain ⟨i,j,rfl,rfl,hz,q⟩:=h
  obtain ⟨t,rfl⟩:=rx
  obtain ⟨t',rfl⟩:=ry
  exact add_str (fun t' tk => ⟨.str (i ++ j),H,I.tok _,⟨_,rfl⟩,q⟩) hz
theorem vals1 {x:V} {us:List Value} (r:Vals [x] us):∃ u,us = [u] /\ RelV x u:=by
  cases r with
  | cons r1 r2 => cases r2; exact ⟨_,rfl,r1⟩
theorem vals2 {x y:V} {us:List Value} (r:Vals [x,y] us):∃ u w',us = [u,w'] /\ RelV x u /\ RelV y w':=by
  cases r with
  | cons r1 r2 =>
    cases r2 with
    | cons r3 r4 => cases r4; exact ⟨_,_,rfl,r1,r3⟩
theorem call_abs:CallR X (.builtin "abs") (fun xs H Q => ∃ i,xs = [.int i] /\ Q (.int (if i < 0 then -i else i)) H):=by
  intro pins s σ H xs us Q I r h
  obtain ⟨i,rfl,q⟩:=h
  obtain ⟨u,rfl,t,rfl⟩:=vals1 r
  exact call_abs_int fun u tk => ⟨.int (if i < 0 then -i else i),H,I.tok _,⟨_,rfl⟩,q⟩
theorem call_max2 (hc:X.calm = true):CallR X (.builtin "max") (fun xs H Q => ∃ i j,xs = [.int i,.int j] /\ Q (.int (if j > i then j else i)) H):=by
  intro pins s σ H xs us Q I r h
  obtain ⟨i,j,rfl,q⟩:=h
  obtain ⟨u,w',rfl,⟨t,rfl⟩,⟨t',rfl⟩⟩:=vals2 r
  refine max_two_ints (I.ok.hd hc) fun h' tk k => ⟨_,H,I.kept k,?_,q⟩
  by_cases hj:j > i
  . rw [if_pos hj,if_pos hj]; exact ⟨_,rfl⟩
  . rw [if_neg hj,if_neg hj]; exact ⟨_,rfl⟩
theorem call_min2 (hc:X.calm = true):CallR X (.builtin "min") (fun xs H Q => ∃ i j,xs = [.int i,.int j] /\ Q (.int (if j < i then j else i)) H):=by
  intro pins s σ H xs us Q I r h
  obtain ⟨i,j,rfl,q⟩:=h
  obtain ⟨u,w',rfl,⟨t,rfl⟩,⟨t',rfl⟩⟩:=vals2 r
  refine min_two_ints (I.ok.hd hc) fun h' tk k => ⟨_,H,I.kept k,?_,q⟩
  by_cases hj:j < i
  . rw [if_pos hj,if_pos hj]; exact ⟨_,rfl⟩
  . rw [if_neg hj,if_neg hj]; exact ⟨_,rfl⟩
theorem call_int1:CallR X (.type "int") (fun xs H Q => (∃ i,xs = [.int i] /\ Q (.int i) H) ∨ ∃ k,xs = [.bl k] /\ Q (.int (if k then 1 else 0)) H):=by
  intro pins s σ H xs us Q I r h
  rcases h with ⟨i,rfl,q⟩ | ⟨k,rfl,q⟩
  . obtain ⟨u,rfl,t,rfl⟩:=vals1 r
    exact call_int_int ⟨.int i,H,I,⟨_,rfl⟩,q⟩
  . obtain ⟨u,rfl,r1⟩:=vals1 r
    cases r1
    exact call_int_bool ⟨.int (if k then 1 else 0),H,I.tok _,⟨_,rfl⟩,q⟩
noncomputable def LenV (K:PySem.W.Frag) (x:V) (H:Hp) (n:Nat):Prop :=
  match x with
  | .str y => y.length <= sizeLine /\ n = y.length
  | .byt y => y.size <= sizeLine /\ n = y.size
  | .ref p => (∃ xs,SqL K H p xs /\ n = xs.length) ∨ ∃ xs,SqT K H p xs /\ n = xs.length
  | _ => False
theorem call_len:CallR X (.builtin "len") (fun xs H Q => ∃ x n,xs = [x] /\ LenV X.K x H n /\ Q (.int n) H):=by
  intro pins s σ H xs us Q I r h
  obtain ⟨x,n,rfl,e,q⟩:=h
  obtain ⟨u,rfl,rx⟩:=vals1 r
  have hl:=line63
  have hs:sizeLine = 16777216:=sizeLine_eq
  cases x with
  | str y =>
    obtain ⟨t,rfl⟩:=rx
    obtain ⟨hy,e'⟩:y.length <= sizeLine /\ n = y.length:=e
    subst e'
    exact len_str (by omega) ⟨.int _,H,I.tok _,⟨_,rfl⟩,q⟩
  | byt y =>
    obtain ⟨t,rfl⟩:=rx
    obtain ⟨hy,e'⟩:y.size <= sizeLine /\ n = y.size:=e
    subst e'
    exact PySem.W.len_bytes (by omega) ⟨.int _,H,I.tok _,⟨_,rfl⟩,q⟩
  | ref p =>
    cases rx
    have e':(∃ xs,SqL X.K H p xs /\ n = xs.length) ∨ ∃ xs,SqT X.K H p xs /\ n = xs.length:=e
    rcases e' with ⟨xs,hx,e'⟩ | ⟨xs,hx,e'⟩
    . subst e'
      obtain ⟨its,r',pl,hz⟩:=I.list hx
      have hlen:=r'.length
      exact Calls.call_len_list pl.isList (by simp only [List.size_toArray]; omega) ⟨.int xs.length,H,I.tok _,⟨_,by simp only [List.size_toArray]; rw [hlen]⟩,q⟩
    . subst e'
      obtain ⟨its,r',pl,hz⟩:=I.tuple hx
      have hlen:=r'.length
      exact len_tuple pl (by simp only [List.size_toArray]; omega) ⟨.int xs.length,H,I.tok _,⟨_,by simp only [List.size_toArray]; rw [hlen]⟩,q⟩
  | _ => exact (show False from e).elim
end
end L2
namespace L2
open PySem PySem.Spec PyProof.Rows
structure ObjM (h:Heap) (x dx C:Addr) (mA:Str -> Option Value):Prop where
  obj:h.get? x = some (PySem.W.instObj C dx)
  ns:h.Ns1 dx mA
  ne:dx ≠ x
theorem lookIn_ns {h:Heap} {dx:Addr} {mA:Str -> Option Value} (n:h.Ns1 dx mA):∃ od,h.get? dx = some od /\ ∀ name,PySem.W.lookIn name od = some (mA name):=by
  obtain ⟨o,es,ep,ho,hd,hk,_,hm⟩:=n
  refine ⟨o,ho,fun name => ?_⟩
  have e:=hm name
  unfold nsFind findBy at e
  rw [← Array.find?_toList] at e
  unfold PySem.W.lookIn
  rw [hd]
  dsimp only
  split
  . rename_i y q
    rw [q] at e
    exact congrArg some e
  . rename_i q
    rw [q] at e
    have a:es.toList.any (·.refKey) = false:=by
      rw [List.any_eq_false]
      intro y hy
      obtain ⟨z,t,hkey⟩:=hk y (Array.mem_toList_iff.mp hy)
      simp [DictEntry.refKey,hkey]
    have a':¬ es.toList.any (·.refKey) = true:=by rw [a]; exact Bool.false_ne_true
    rw [if_neg a']
    exact congrArg some e
theorem ObjM.look {h:Heap} {x dx C:Addr} {mA:Str -> Option Value} (I:ObjM h x dx C mA):∃ od,PySem.W.InstAt h x (PySem.W.instObj C dx) C (some od) /\ ∀ name,PySem.W.lookIn name od = some (mA name) :=
  let ⟨od,ho,hl⟩:=lookIn_ns I.ns
  ⟨od,⟨I.obj,rfl,rfl,ho⟩,hl⟩
section
variable {prog:Program} {w:World} {A:Around} {E:Value -> Shared -> Prop} {s:Shared} {K:PySem.W.Frag} {x dx C f:Addr} {mA:Str -> Option Value} {name:Str} {v:Value}
end
theorem RelO.none_of {o:Option Value} (r:RelO none o):o = none:=by
  cases o with
  | none => rfl
  | some u => exact (show False from r).elim
section
variable {P:Program} {w:World} {H H':Hp} {h h':Heap} {a C dx:Addr} {fs fs':List (Str×V)}
theorem ins_get (hok:HOk P w H h) (e:H a = some (.ins C dx fs)):∃ mA,ObjM h a dx C mA /\ (∀ f,RelO (fs.lookup f) (mA f)) /\ PySem.Within mA (fs.map (·.1)) /\ fs.length <= 1000 /\ H dx = some (.own a):=by
  obtain ⟨d,z,ne,ob,mA,n,r,q⟩:=(show ObjOk P w H h a (.ins C dx fs) from hok a _ e)
  exact ⟨mA,⟨ob,n,ne⟩,r,q,z,d⟩
end
structure Cls (K:PySem.W.Frag) (C:Addr):Prop where
  pg:PySem.W.plainGet K C Str.empty = true
  hd:PySem.W.hasDictIn K C = true
  po:PySem.W.plainOver K C = true
  sa:PySem.W.findIn K (.ref C) "__setattr__" = some (some (.builtin "object.__setattr__"))
theorem Cls.get {K:PySem.W.Frag} {C:Addr} (c:Cls K C) (f:Str):PySem.W.plainGet K C f = true:=c.pg
section
variable {X:Cx} {pins:List (Addr×Obj)} {σ:St} {H:Hp} {s:Shared} {a C dx:Addr} {fs:List (Str×V)} {f:Str} {v:V} {A:Around} {E:Value -> Shared -> Prop}
theorem Inv.made (I:Inv X pins σ H s):Inv X pins σ (upd (upd H s.heap.objs.size (.own (s.heap.objs.size + 1))) (s.heap.objs.size + 1) (.ins C s.heap.objs.size []))
    { s with heap:=(s.heap.push PySem.W.emptyDict).push (PySem.W.instObj C s.heap.objs.size) }:=by
  have e1:(s.heap.push PySem.W.emptyDict).get? s.heap.objs.size = some PySem.W.emptyDict:=Heap.get?_push_size s.heap rfl
  have e2:((s.heap.push PySem.W.emptyDict).push (PySem.W.instObj C s.heap.objs.size)).get? (s.heap.objs.size + 1) = some (PySem.W.instObj C s.heap.objs.size):=by
    have:=Heap.get?_push_size (s.heap.push PySem.W.emptyDict) (o:=PySem.W.instObj C s.heap.objs.size) rfl
    rwa [Heap.size_push] at this
  have e3:(s.heap.push PySem.W.emptyDict).Ns s.heap.objs.size (fun _ => none):=⟨PySem.W.emptyDict,#[],_,e1,rfl,(fun e he => absurd he (by simp)),fun _ => rfl⟩
  have I1:=I.laid (a:=s.heap.objs.size) (o:=.own (s.heap.objs.size + 1)) (h':=s.heap.push PySem.W.emptyDict) (t':=s.toks) (fun b u q => Heap.get?_push_of_some _ q) (Nat.le_refl _) ⟨_,e1⟩
  refine I1.laid (a:=s.heap.objs.size + 1) (o:=.ins C s.heap.objs.size []) (t':=s.toks) (fun b u q => Heap.get?_push_of_some _ q) (Nat.le_of_eq (Heap.size_push _ _)) ?_
  have ne:s.heap.objs.size ≠ s.heap.objs.size + 1:=Nat.ne_of_lt (Nat.lt_succ_self _)
  refine ⟨by rw [upd_ne ne,upd_same],Nat.zero_le _,ne,e2,fun _ => none,(Heap.Ns1.of_empty e3).at fun o q => Heap.get?_push_of_some _ q,fun _ => True.intro,fun y hy => absurd rfl hy⟩
end
section
variable {X:Cx} {o e value:Expr} {f:Str} {pos pos' tpos:Pos} {ta tv:TE}
end
section
variable {X:Cx} {pins:List (Addr×Obj)} {σ:St} {H:Hp} {s:Shared} {A:Around} {E:Value -> Shared -> Prop} {Q:Value -> Shared -> Prop} {c:Value} {b:Bool}
inductive TyOf (K:PySem.W.Frag) (H:Hp):V -> Value -> Prop where
  | non:TyOf K H .non (.type "NoneType")
  | bl (x:Bool):TyOf K H (.bl x) (.type "bool")
  | int (i:Int):TyOf K H (.int i) (.type "int")
  | str (x:Str):TyOf K H (.str x) (.type "str")
  | flt (x:UInt64):TyOf K H (.flt x) (.type "float")
  | lst {a:Addr} {xs:List V} (e:H a = some (.lst xs)):TyOf K H (.ref a) (.type "list")
  | frz {a:Addr} {o:Obj} {xs:List V} (e:H a = some (.frz o (.lst xs))):TyOf K H (.ref a) (.type "list")
  | tup {a:Addr} {xs:List V} (e:H a = some (.tup xs)):TyOf K H (.ref a) (.type "tuple")
  | dK {a:Addr} {kvs:List (Key×V)} (e:H a = some (.dK kvs)):TyOf K H (.ref a) (.type "dict")
  | dT {a:Addr} {kvs:List (List Key×V)} (e:H a = some (.dT kvs)):TyOf K H (.ref a) (.type "dict")
  | ins {a C dx:Addr} {fs:List (Str×V)} (e:H a = some (.ins C dx fs)) (cl:Cls K C) (ha:PySem.W.findIn K (.ref C) "__class__" = some (some (.builtin "object.__class__")))
      (hn:PySem.W.specialIn K (.builtin "object.__class__") "__get__" = some (some (.builtin "getset_descriptor.__get__"))) (htk:PySem.W.takesIn K (.builtin "object.__class__") = some true)
      (hm:PySem.W.mroIn K C (.type "object") = some true):TyOf K H (.ref a) (.ref C)
theorem isinst_ok {x:V} {u t:Value} (I:Inv X pins σ H s) (rx:RelV x u) (ty:TyOf X.K H x t) (e:PySem.W.kitOne X.K t c = some b) (h:∀ tk,Q (.bool b) { s with toks:=tk }) :
    wpAny (model X.prog X.w) A (call (.builtin "isinstance") [u,c]) Q E s:=by
  cases ty with
  | non => cases (show u = Value.none from rx); exact PySem.W.kia_one PySem.W.kitx_none I.kIn True.intro e (fun z => nomatch z) h
  | bl y => cases (show u = Value.bool y from rx); exact PySem.W.kia_one PySem.W.kitx_bool I.kIn True.intro e (fun z => nomatch z) h
  | int i => obtain ⟨t,q⟩:=(show ∃ t,u = Value.int i t from rx); cases q; exact PySem.W.kia_one PySem.W.kitx_int I.kIn True.intro e (fun z => nomatch z) h
  | str y => obtain ⟨t,q⟩:=(show ∃ t,u = Value.str y t from rx); cases q; exact PySem.W.kia_one PySem.W.kitx_str I.kIn True.intro e (fun z => nomatch z) h
  | flt y => obtain ⟨t,q⟩:=(show ∃ t,u = Value.float y t from rx); cases q; exact PySem.W.kia_one PySem.W.kitx_float I.kIn True.intro e (fun z => nomatch z) h
  | @lst a xs ea =>
    cases (show u = Value.ref a from rx)
    obtain ⟨_,_,n,_,h1⟩:=(show ObjOk X.prog X.w H s.heap a (.lst xs) from I.hok a _ ea)
    exact PySem.W.kia_one PySem.W.kitx_list I.kIn ⟨_,h1,rfl⟩ e (fun z => nomatch z) h
  | @frz a ob xs ea =>
    cases (show u = Value.ref a from rx)
    obtain ⟨_,_,_,n,_,h1⟩:=(show ObjOk X.prog X.w H s.heap a (.frz ob (.lst xs)) from I.hok a _ ea)
    exact PySem.W.kia_one PySem.W.kitx_list I.kIn ⟨_,h1,rfl⟩ e (fun z => nomatch z) h
  | @tup a xs ea =>
    cases (show u = Value.ref a from rx)
    obtain ⟨_,_,_,p⟩:=(show ObjOk X.prog X.w H s.heap a (.tup xs) from I.hok a _ ea)
    obtain ⟨o,h1,h2,_⟩:=p
    exact PySem.W.kia_one PySem.W.kitx_tuple I.kIn ⟨o,h1,h2⟩ e (fun z => nomatch z) h
  | @dK a kvs ea =>
    cases (show u = Value.ref a from rx)
    obtain ⟨_,_,vs,_,p⟩:=(show ObjOk X.prog X.w H s.heap a (.dK kvs) from I.hok a _ ea)
    obtain ⟨o,es,ep,h1,h2,_⟩:=p
    exact PySem.W.kia_one PySem.W.kitx_dict I.kIn ⟨o,h1,h2.1⟩ e (fun z => nomatch z) h
  | @dT a kvs ea =>
    cases (show u = Value.ref a from rx)
    obtain ⟨_,_,xs,_,o,es,ep,h1,h2,_⟩:=(show ObjOk X.prog X.w H s.heap a (.dT kvs) from I.hok a _ ea)
    exact PySem.W.kia_one PySem.W.kitx_dict I.kIn ⟨o,h1,h2.1⟩ e (fun z => nomatch z) h
  | @ins a C dx fs ea cl ha hn htk hm =>
    cases (show u = Value.ref a from rx)
    obtain ⟨mA,O,_⟩:=ins_get I.hok ea
    obtain ⟨od,J,_⟩:=O.look
    exact PySem.W.kia_one (PySem.W.kitx_own (cl.get _) cl.hd ha hn htk hm) I.kIn J e (fun z => nomatch z) h
end
end L2
namespace L2
open PySem PySem.Spec PyProof.Rows
structure Room (k:Nat) (A:Around):Prop where
  hd:A.handled = none
  dp:A.depth + 3 * k + 5 < recursionLimit
  un:A.units + 16 * k + 200 < cLine
theorem Room.mono {j k:Nat} {A:Around} (r:Room k A) (h:j <= k):Room j A:=⟨r.hd,by have:=r.dp; omega,by have:=r.un; omega⟩
theorem Room.deeper {k:Nat} {A:Around} (r:Room (k + 1) A) (env:Env):Room k (A.deeper env) :=
  ⟨r.hd,by have:=r.dp; show A.depth + 1 + 3 * k + 5 < _; omega,by have:=r.un; show A.units + 3 + 16 * k + 200 < _; omega⟩
theorem Room.in1 {k:Nat} {A:Around} (r:Room (k + 1) A):Room k A.in1 :=
  ⟨r.hd,by have:=r.dp; show A.depth + 3 * k + 5 < _; omega,by have:=r.un; show A.units + 1 + 16 * k + 200 < _; omega⟩
theorem Room.depth {k:Nat} {A:Around} (r:Room k A):A.depth < recursionLimit:=by have:=r.dp; omega
theorem Room.units {k:Nat} {A:Around} (r:Room k A):A.units + 64 < cLine:=by have:=r.un; omega
noncomputable def tNil:TA:=fun _ H Q => Q [] H
noncomputable def tCons (ta:TE) (tr:TA):TA:=fun σ H Q => ta σ H fun x H1 => tr σ H1 fun xs H2 => Q (x :: xs) H2
section
variable {X:Cx} {e:Expr} {es:List Expr} {te:TE} {t:TA} {pos:Pos}
theorem pa_nil:PA X [] tNil:=fun _ _ _ _ H Q I h => Calls.spliced_nil ⟨[],H,I,.nil,h⟩
theorem pa_cons (ha:PE X e te) (hr:PA X es t) (hs:starEach (e :: es) X.env = (false,eval e X.env) :: starEach es X.env:=by rfl):PA X (e :: es) (tCons te t):=by
  intro pos pins s σ H Q I h
  rw [hs]
  show wpAny _ _ (spliced ((false,eval e X.env) :: backTo pos (starEach es X.env))) _ _ s
  refine Calls.spliced_cons (thn (ha pins s σ H _ I h) fun u s1 ⟨x,H1,I1,r1,q1⟩ => ?_)
  exact thn (hr pos pins s1 σ H1 _ I1 q1) fun us s2 ⟨xs,H2,I2,r2,q2⟩ => ⟨x :: xs,H2,I2,.cons r1 r2,q2⟩
noncomputable def tTup (t:TA):TE:=fun σ H Q => t σ H fun xs H1 => xs.length <= sizeLine /\ ∀ p,H1 p = none -> Q (.ref p) (upd H1 p (.tup xs))
noncomputable def tLst (t:TA):TE:=fun σ H Q => t σ H fun xs H1 => xs.length <= sizeLine /\ ∀ p,H1 p = none -> Q (.ref p) (upd H1 p (.lst xs))
theorem pe_tup {x1} (h:PA X es t):PE X (.Tuple es x1 pos) (tTup t):=by
  intro pins s σ H Q I hq
  refine wpAny_Tuple_spliced (thn (h pos pins s σ H _ I hq) fun us s1 ⟨xs,H1,I1,r,z,q⟩ => ⟨by rw [← r.length]; exact z,?_⟩)
  have hf:H1 s1.heap.objs.size = none:=I1.hok.fresh (Nat.le_refl _)
  refine ⟨.ref s1.heap.objs.size,upd H1 s1.heap.objs.size (.tup xs),I1.laid (t':=s1.toks) (fun b u e => Heap.get?_push_of_some _ e) (Nat.le_refl _) ?_,rfl,q _ hf⟩
  exact ⟨z,us,r,⟨_,Heap.get?_push_size _ rfl,rfl,_,rfl⟩⟩
theorem pe_lst (h:PA X es t):PE X (.List es pos) (tLst t):=by
  intro pins s σ H Q I hq
  refine wpAny_List_spliced (thn (h pos pins s σ H _ I hq) fun us s1 ⟨xs,H1,I1,r,z,q⟩ => ⟨by rw [← r.length]; exact z,?_⟩)
  have hf:H1 s1.heap.objs.size = none:=I1.hok.fresh (Nat.le_refl _)
  refine ⟨.ref s1.heap.objs.size,upd H1 s1.heap.objs.size (.lst xs),I1.laid (t':=s1.toks) (fun b u e => Heap.get?_push_of_some _ e) (Nat.le_refl _) ?_,rfl,q _ hf⟩
  exact ⟨z,us,0,r,Heap.get?_push_size _ rfl⟩
end
noncomputable abbrev Sp:=List V -> Hp -> VK -> XK -> Prop
noncomputable abbrev CXT:=List Env -> Hp -> Shared -> XK -> Value -> Shared -> Prop
structure Env0 (P:Program) (w:World) (K:PySem.W.Frag) (mg:Str -> Option Value) (base:Heap) (A:Around) (outer:List Env) (s:Shared) (H:Hp):Prop where
  frames:A.frames = some outer
  mod:Mod K mg base
  bs:∀ b o,base.get? b = some o -> s.heap.get? b = some o /\ H b = none
  bsz:base.objs.size <= s.heap.objs.size
  funs:s.heap.FunFrames base outer
  frf:∀ b ∈ frs outer,H b = none
  hok:HOk P w H s.heap
  bare:AllBare s.gens
noncomputable def CE (outer:List Env) (P:Program) (w:World) (H:Hp) (s:Shared) (Q:VK) (u:Value) (s':Shared):Prop :=
  ∃ v H',s'.os = s.os /\ AllBare s'.gens /\ Un (frs outer) [] H H' s.heap s'.heap /\ HOk P w H' s'.heap /\ RelV v u /\ Q v H'
noncomputable def CR (CX:CXT) (outer:List Env) (P:Program) (w:World) (H:Hp) (s:Shared) (Q:VK) (E:XK) (r:Result) (s':Shared):Prop :=
  match r with
  | .ok (.ret u) => CE outer P w H s Q u s'
  | .ok _ => False
  | .error e => CX outer H s E e s'
structure FnOk (P:Program) (w:World) (K:PySem.W.Frag) (mg:Str -> Option Value) (base:Heap) (CX:CXT) (k:Nat) (f:Addr) (fd:FuncData) (ps:List Str) (sp:Sp):Prop where
  len:∀ vs H Q E,sp vs H Q E -> vs.length = ps.length
  run:∀ (A:Around) (outer:List Env) (s:Shared) (H:Hp) (args:Args) (us:List Value) (vs:List V) (Q:VK) (E:XK),Room k A -> Env0 P w K mg base A outer s H -> BindsTo s fd args (ps.zip us) -> Vals vs us -> sp vs H Q E ->
    codeAny (model P w) A (.call (.ref f) args) (CR CX outer P w H s Q E) s
theorem FnOk.mono {P:Program} {w:World} {K:PySem.W.Frag} {mg:Str -> Option Value} {base:Heap} {CX:CXT} {j k:Nat} {f:Addr} {fd:FuncData} {ps:List Str} {sp:Sp} (F:FnOk P w K mg base CX j f fd ps sp) (h:j <= k) :
    FnOk P w K mg base CX k f fd ps sp:=⟨F.len,fun A outer s H args us vs Q E hr => F.run A outer s H args us vs Q E (hr.mono h)⟩
theorem FnOk.imp {P:Program} {w:World} {K:PySem.W.Frag} {mg:Str -> Option Value} {base:Heap} {CX:CXT} {k:Nat} {f:Addr} {fd:FuncData} {ps:List Str} {sp sp':Sp} (F:FnOk P w K mg base CX k f fd ps sp)
    (h:∀ vs H Q E,sp' vs H Q E -> sp vs H Q E):FnOk P w K mg base CX k f fd ps sp' :=
  ⟨fun vs H Q E q => F.len vs H Q E (h _ _ _ _ q),fun A outer s H args us vs Q E hr he hb hv hs => F.run A outer s H args us vs Q E hr he hb hv (h _ _ _ _ hs)⟩
theorem Env0.in1 {P:Program} {w:World} {K:PySem.W.Frag} {mg:Str -> Option Value} {base:Heap} {A:Around} {outer:List Env} {s:Shared} {H:Hp} (e:Env0 P w K mg base A outer s H) :
    Env0 P w K mg base A.in1 outer s H:=⟨e.frames,e.mod,e.bs,e.bsz,e.funs,e.frf,e.hok,e.bare⟩
section
variable {X:Cx} {pins:List (Addr×Obj)} {σ:St} {H:Hp} {s s':Shared}
theorem Inv.env0 (I:Inv X pins σ H s):Env0 X.prog X.w X.K X.mg X.base X.A X.stack s H :=
  ⟨I.ok.frames,I.ok.mod,I.bs,Nat.le_trans I.ok.bsz I.sz,I.stack,I.stkFree,I.hok,I.bare⟩
theorem Inv.after {Q:VK} {u:Value} (I:Inv X pins σ H s) (h:CE X.stack X.prog X.w H s Q u s'):EP X pins σ Q u s':=by
  obtain ⟨v,H',os,bare,un,hok,r,q⟩:=h
  obtain ⟨hh,g,d,t,os'⟩:=s'
  obtain rfl:os' = s.os:=os
  exact ⟨v,H',I.call (h':=hh) (g':=g) (d':=d) (t':=t) (ch:=[]) un hok bare (fun b z => absurd z (by simp)),r,q⟩
end
noncomputable def tCall (sp:Sp) (dvs:List V) (E:XK) (t:TA):TE:=fun σ H Q => t σ H fun vs H1 => sp (vs ++ dvs) H1 Q E
noncomputable def Binds (K:PySem.W.Frag) (fd:FuncData) (ps:List Str) (ds:List Value):Prop :=
  ∀ (s:Shared) (us:List Value),K.In s.heap -> (us ++ ds).length = ps.length -> BindsTo s fd ⟨us,[]⟩ (ps.zip (us ++ ds))
theorem Binds.all {K:PySem.W.Frag} {fd:FuncData} {ps:List Str} (h:∀ us:List Value,us.length = ps.length -> bindArgs fd ⟨us,[]⟩ = pure (ps.zip us)):Binds K fd ps []:=fun s us _ hl => by
  rw [List.append_nil] at hl ⊢
  exact .of_eq (h us hl)
noncomputable def Passes (CX:CXT) (X:Cx) (E:XK):Prop:=∀ (pins:List (Addr×Obj)) (σ:St) (H:Hp) (s:Shared) (e:Value) (s':Shared),Inv X pins σ H s -> CX X.stack H s E e s' -> X.xe e s'
section
variable {X:Cx} {CX:CXT} {k:Nat} {f C:Addr} {fd:FuncData} {ps:List Str} {sp:Sp} {dvs:List V} {ds:List Value} {E:XK} {x m:Str} {p pos apos:Pos} {e o:Expr} {es:List Expr} {ta:TE} {t:TA}
theorem run_fn {pins:List (Addr×Obj)} {σ:St} {H:Hp} {s:Shared} {Q:VK} {us:List Value} {vs:List V} (F:FnOk X.prog X.w X.K X.mg X.base CX k f fd ps sp) (hr:Room k X.A) (hb:Binds X.K fd ps ds) (hd:Vals dvs ds) (hx:Passes CX X E)
    (I:Inv X pins σ H s) (r:Vals vs us) (h:sp (vs ++ dvs) H Q E):wpAny (model X.prog X.w) X.A (call (.ref f) us) (EP X pins σ Q) X.xe s:=by
  have r2:Vals (vs ++ dvs) (us ++ ds):=r.append hd
  have hl:(us ++ ds).length = ps.length:=by rw [← r2.length]; exact F.len _ _ _ _ h
  refine wpAny_call (codeAny_mono (F.run X.A X.stack s H ⟨us,[]⟩ (us ++ ds) (vs ++ dvs) Q E hr I.env0 (hb s us I.kIn hl) r2 h) fun r s' hq => ?_)
  cases r with
  | error e => exact hx pins σ H s e s' I hq
  | ok fl =>
    cases fl with
    | ret u => exact I.after hq
    | next => exact False.elim hq
    | brk => exact False.elim hq
    | cont => exact False.elim hq
theorem pe_call (F:FnOk X.prog X.w X.K X.mg X.base CX k f fd ps sp) (hr:Room k X.A) (hg:Gl X x) (hm:X.mg x = some (.ref f)) (hk:PySem.W.keepIn X.K (.ref f) = true) (hb:Binds X.K fd ps ds) (hd:Vals dvs ds) (hx:Passes CX X E)
    (ha:PA X (e :: es) t) (hdb:(x == ("__debug__":Str)) = false:=by decide) (he:starEach (e :: es) X.env = (false,eval e X.env) :: starEach es X.env:=by rfl) (hpl:(backTo pos (starEach es X.env)).any (·.1) = false:=by rfl) :
    PE X (.Call (.Name x p) (e :: es) [] pos) (tCall sp dvs E t):=by
  intro pins s σ H Q I h
  refine wpAny_Call_Name_kw (ld_glob I hg hm ?_ hdb)
  refine PySem.W.callWith_K (h₀:=X.base) I.ok.mod.kin hk (thn (ha pos pins s σ H _ I h) fun us s1 ⟨vs,H1,I1,r,q⟩ => ⟨I1.kIn,?_⟩) he hpl
  exact run_fn F hr hb hd hx I1 r q
end
section
variable {X:Cx} {CX:CXT} {k:Nat} {f C:Addr} {fd:FuncData} {ps ks:List Str} {sp:Sp} {E:XK} {x m:Str} {p pos apos kpos:Pos} {e o:Expr} {es:List Expr} {kws:List Keyword} {te ta:TE} {t tk:TA} {nm:Option Str}
structure KBinds (K:PySem.W.Frag) (fd:FuncData) (ps ks:List Str) (g:List Value -> List Value -> List Value) (gV:List V -> List V -> List V):Prop where
  to:∀ (s:Shared) (us ws:List Value),K.In s.heap -> (g us ws).length = ps.length -> BindsTo s fd ⟨us,ks.zip ws⟩ (ps.zip (g us ws))
  rel:∀ {vs:List V} {us:List Value} {zs:List V} {ws:List Value},Vals vs us -> Vals zs ws -> Vals (gV vs zs) (g us ws)
noncomputable def tCallK (sp:Sp) (gV:List V -> List V -> List V) (E:XK) (t tk:TA):TE:=fun σ H Q => t σ H fun vs H1 => tk σ H1 fun zs H2 => sp (gV vs zs) H2 Q E
variable {g:List Value -> List Value -> List Value} {gV:List V -> List V -> List V}
end
structure FnScope (N P:List Str) (sc:Scope):Prop where
  kind:sc.kind = .function
  co:sc.isCoroutine = false
  gen:sc.isGenerator = false
  nd:N.Nodup
  pre:N.take P.length = P
  par:∀ x ∈ P,sc.names.lookup x = some .local ∨ sc.names.lookup x = some .cell
  nofree:∀ y ∈ sc.names,y.2 ≠ .free
theorem bindL_out {kindOf:Str -> Option NameKind} {x:Str}:∀ {binds:List (Str×Value)} {m:Str -> Option Value},(∀ v,(x,v) ∉ binds) -> bindL kindOf binds m x = m x
  | [],_,_ => rfl
  | (n,v) :: r,m,h => by
    unfold bindL
    rw [bindL_out fun w hw => h w (List.mem_cons_of_mem _ hw)]
    split
    . have:x ≠ n:=by rintro rfl; exact h v List.mem_cons_self
      simp [this]
    . rfl
theorem bindC_out {kindOf:Str -> Option NameKind} {x:Str}:∀ {binds:List (Str×Value)} {m:Str -> Option Value},(∀ v,(x,v) ∉ binds) -> bindC kindOf binds m x = m x
  | [],_,_ => rfl
  | (n,v) :: r,m,h => by
    unfold bindC
    rw [bindC_out fun w hw => h w (List.mem_cons_of_mem _ hw)]
    split
    . rfl
    . have:x ≠ n:=by rintro rfl; exact h v List.mem_cons_self
      simp [this]
theorem bindL_get {kindOf:Str -> Option NameKind} {x:Str} {v:Value}:∀ {P:List Str} {vs:List Value} {i:Nat} {m:Str -> Option Value},P.Nodup -> P[i]? = some x -> vs[i]? = some v -> kindOf x = some .local ->
    bindL kindOf (P.zip vs) m x = some v
  | [],_,_,_,_,h,_,_ => by simp at h
  | _ :: _,[],_,_,_,_,h,_ => by simp at h
  | p :: P,w :: vs,0,m,nd,h1,h2,hk => by
    simp at h1 h2; subst h1; subst h2
    show bindL kindOf ((p,w) :: P.zip vs) m p = _
    unfold bindL
    rw [bindL_out fun v hv => (List.nodup_cons.mp nd).1 (List.of_mem_zip hv).1,if_pos hk]
    simp
  | p :: P,w :: vs,i + 1,m,nd,h1,h2,hk => by
    show bindL kindOf ((p,w) :: P.zip vs) m x = _
    unfold bindL
    exact bindL_get (i:=i) (List.nodup_cons.mp nd).2 (by simpa using h1) (by simpa using h2) hk
theorem bindC_get {kindOf:Str -> Option NameKind} {x:Str} {v:Value}:∀ {P:List Str} {vs:List Value} {i:Nat} {m:Str -> Option Value},P.Nodup -> P[i]? = some x -> vs[i]? = some v -> kindOf x ≠ some .local ->
    bindC kindOf (P.zip vs) m x = some v
  | [],_,_,_,_,h,_,_ => by simp at h
  | _ :: _,[],_,_,_,_,h,_ => by simp at h
  | p :: P,w :: vs,0,m,nd,h1,h2,hk => by
    simp at h1 h2; subst h1; subst h2
    show bindC kindOf ((p,w) :: P.zip vs) m p = _
    unfold bindC
    rw [bindC_out fun v hv => (List.nodup_cons.mp nd).1 (List.of_mem_zip hv).1,if_neg hk]
    simp
  | p :: P,w :: vs,i + 1,m,nd,h1,h2,hk => by
    show bindC kindOf ((p,w) :: P.zip vs) m x = _
    unfold bindC
    exact bindC_get (i:=i) (List.nodup_cons.mp nd).2 (by simpa using h1) (by simpa using h2) hk
noncomputable def start (N:List Str) (vs:List V):St:=vs.map some ++ List.replicate (N.length - vs.length) none
noncomputable def cxOf (CX:CXT) (P:Program) (w:World) (K:PySem.W.Frag) (mg:Str -> Option Value) (base:Heap) (N:List Str) (qual:Str) (scope:Scope) (f:Addr) (cd:Value) (A:Around) (outer:List Env) (s:Shared) (H:Hp) (E:XK):Cx where
  prog:=P
  w:=w
  K:=K
  mg:=mg
  base:=base
  A:=A.deeper (envOfC qual scope s.heap.objs.size f cd)
  N:=N
  s₀:=s
  H₀:=H
  env:=envOfC qual scope s.heap.objs.size f cd
  outer:=outer
  stack:=envOfC qual scope s.heap.objs.size f cd :: outer
  ex:=[]
  calm:=true
  fn:=fun _ => true
  pn:=[]
  xe:=fun e s' => wpAny (model P w) (A.deeper (envOfC qual scope s.heap.objs.size f cd)) (leaving (envOfC qual scope s.heap.objs.size f cd) e) (fun _ s'' => CX outer H s E e s'') (fun e' s'' => CX outer H s E e' s'') s'
theorem cell_has {sc:Scope} {n:Nat} {x:Str} (h:sc.names.lookup x = some .cell):∃ c,(cellsFrom n sc.names []).lookup x = some c:=by
  have q:=PySem.W.cellsFrom_some sc.names n [] (.inl h)
  exact Option.isSome_iff_exists.mp q
theorem inv_start {CX:CXT} {P:Program} {w:World} {K:PySem.W.Frag} {mg:Str -> Option Value} {base:Heap} {N ps:List Str} {qual:Str} {scope:Scope} {f:Addr} {cd:Value} {A:Around} {outer:List Env} {s s1:Shared} {H:Hp} {E:XK} {us:List Value} {vs:List V}
    (S:FnScope N ps scope) (hd:A.handled = none) (e0:Env0 P w K mg base A outer s H) (hl:vs.length = ps.length) (r:Vals vs us)
    (x:InCallC s s.heap.objs.size (bindL (envOfC qual scope s.heap.objs.size f cd).kindOf (ps.zip us) fun _ => none) (cellsFrom (s.heap.objs.size + 1) scope.names []) (bindC (envOfC qual scope s.heap.objs.size f cd).kindOf (ps.zip us) fun _ => none) s1) :
    Inv (cxOf CX P w K mg base N qual scope f cd A outer s H E) [] (start N vs) H s1:=by
  have hpl:ps.length <= N.length:=by have:=congrArg List.length S.pre; rw [List.length_take] at this; omega
  obtain ⟨h1,tk,rfl,hk⟩:=x.done
  have noA:∀ b:Addr,b ∉ (cxOf CX P w K mg base N qual scope f cd A outer s H E).ex:=fun b z => absurd (show b ∈ ([]:List Addr) from z) (by simp)
  refine ⟨⟨e0.mod,S.kind,rfl,rfl,Nat.le_refl _,fun y z c h1 h2 => ?_,fun y hy => ?_,fun y c _ h => ?_,fun _ => hd,Around.frames_deeper e0.frames,.inr ⟨rfl,rfl⟩,fun b z => absurd z (noA b),e0.bs,e0.bsz,fun b _ _ => noA b,fun b z => absurd z (noA b),e0.funs,e0.frf⟩,
    rfl,e0.bare,Un.kept hk,⟨_,x.toInCall.ns,fun i y v h1 h2 h3 => ?_⟩,fun y c h => ⟨_,x.cell y c h⟩,e0.hok.fresh (Nat.le_refl _),fun y c h => ?_,fun p hp => absurd (show p ∈ ([]:List (Addr×Obj)) from hp) (by simp),e0.hok.kept hk,?_⟩
  . exact name_of_addr x.apart (PySem.mem_of_lookup h1) (PySem.mem_of_lookup h2)
  . have hy:scope.names.lookup y = some .cell ∨ scope.names.lookup y = some .free:=hy
    rcases hy with hy | hy
    . exact cell_has hy
    . exact absurd rfl (S.nofree _ (PySem.mem_of_lookup hy))
  . exact Nat.le_of_lt (x.above y c (PySem.mem_of_lookup h))
  . have hi:i < vs.length:=by
      unfold start at h2
      by_cases hi:i < vs.length
      . exact hi
      . rw [List.getElem?_append_right (by simpa using hi)] at h2
        rw [List.getElem?_replicate] at h2
        split at h2 <;> cases h2
    have ha:vs[i]? = some v:=by
      unfold start at h2
      rw [List.getElem?_append_left (by simpa using hi),List.getElem?_map] at h2
      cases e:vs[i]? with
      | none => rw [e] at h2; cases h2
      | some a => rw [e] at h2; cases h2; rfl
    obtain ⟨u,hu,rv⟩:=r.get ha
    have hp:ps[i]? = some y:=by
      rw [← S.pre,List.getElem?_take_of_lt (by omega)]; exact h1
    have ndP:ps.Nodup:=by rw [← S.pre]; exact S.nd.sublist (List.take_sublist _ _)
    refine ⟨u,rv,?_⟩
    rcases S.par y (List.mem_of_getElem? hp) with k | k
    . exact .inl ⟨k,bindL_get ndP hp hu k⟩
    . obtain ⟨c,e⟩:=cell_has (n:=s.heap.objs.size + 1) k
      refine .inr ⟨.inl k,c,e,?_⟩
      have q:=x.cell y c e
      rw [bindC_get ndP hp hu (by show scope.names.lookup y ≠ _; rw [k]; decide)] at q
      exact q
  . exact e0.hok.fresh (Nat.le_of_lt (x.above y c (PySem.mem_of_lookup h)))
  . unfold start
    show _ = N.length
    rw [List.length_append,List.length_map,List.length_replicate]
    omega
theorem fn_of {CX:CXT} {P:Program} {w:World} {K:PySem.W.Frag} {mg:Str -> Option Value} {base:Heap} {k:Nat} {f:Addr} {name qual:Str} {params:Arguments} {body:List Stmt} {scope:Scope} {dV kV doc pm cdv ct oc:Value} {an od:Option Addr}
    {osl:Array (Option Value)} {N ps:List Str} {sp:Sp} (lk:K.lookup f = some ⟨oc,od,.func (PySem.W.fnOf name qual params body scope dV kV doc pm an cdv ct),osl⟩) (hcd:PySem.W.codeIn K cdv qual = true) (S:FnScope N ps scope)
    (len:∀ vs H Q E,sp vs H Q E -> vs.length = ps.length)
    (hbody:∀ (A:Around) (outer:List Env) (s:Shared) (H:Hp) (vs:List V) (Q:VK) (E:XK),Room k (A.deeper (envOfC qual scope s.heap.objs.size f cdv)) -> sp vs H Q E ->
      ∃ t,PSs (cxOf CX P w K mg base N qual scope f cdv A outer s H E) body t /\ t { nx:=fun _ H' => Q .non H',rt:=Q } (start N vs) H) :
    FnOk P w K mg base CX (k + 1) f (PySem.W.fnOf name qual params body scope dV kV doc pm an cdv ct) ps sp:=by
  refine ⟨len,fun A outer s H args us vs Q E hr e0 hb r hsp => ?_⟩
  have hl:=len _ _ _ _ hsp
  have KX:K.In s.heap:=e0.mod.kin.keeps fun b o e => (e0.bs b o e).1
  have lim:s.heap.NoLimit:=e0.mod.nolimit.keeps fun b o e => (e0.bs b o e).1
  have hkind:∀ y ∈ ps.zip us,scope.names.lookup y.1 = some .local ∨ (scope.names.lookup y.1 = some .cell /\ ((cellsFrom (s.heap.objs.size + 1) scope.names []).lookup y.1).isSome = true):=fun ⟨n,v⟩ hy => by
    rcases S.par n (List.of_mem_zip hy).1 with q | q
    . exact .inl q
    . exact .inr ⟨q,PySem.W.cellsFrom_some _ _ _ (.inl q)⟩
  refine codeAny_call_function hr.depth (KX _ _ lk) rfl S.co S.gen rfl (PySem.W.codeRec_of KX hcd) (hb _ _ _ _ ?_)
  refine wpAny_newFunctionEnv_cells S.kind hkind fun env he s1 x => ?_
  subst he
  refine ⟨lim.keeps x.toInCall.keep,codeAny_func ?_⟩
  obtain ⟨t,ht,hq⟩:=hbody A outer s H vs Q E (hr.deeper _) hsp
  have I:Inv (cxOf CX P w K mg base N qual scope f cdv A outer s H E) [] (start N vs) H s1:=inv_start S hr.hd e0 hl r x
  refine wpAny_mono (ht [] s1 (start N vs) H _ I hq) (fun fl s' hs => ?_) fun e s' hs => hs
  have fin:∀ {σ':St} {H':Hp} {v:V} {u:Value},Inv (cxOf CX P w K mg base N qual scope f cdv A outer s H E) [] σ' H' s' -> RelV v u -> Q v H' -> CE outer P w H s Q u s' :=
    fun {σ' H' v u} J rv q => ⟨v,H',J.os,J.bare,J.base,J.hok,rv,q⟩
  cases fl with
  | ret u =>
    obtain ⟨v,σ',H',J,rv,q⟩:=hs
    exact fin J rv q
  | next =>
    obtain ⟨σ',H',J,q⟩:=hs
    exact fin (v:=V.non) (u:=Value.none) J rfl q
  | brk =>
    obtain ⟨_,_,_,q⟩:=hs
    exact False.elim q
  | cont =>
    obtain ⟨_,_,_,q⟩:=hs
    exact False.elim q
end L2
namespace L2
open PySem PySem.Spec PyProof.Rows
section
variable {X:Cx} {x:Str} {p pos:Pos} {e:Expr} {es:List Expr} {t:TA} {id T:String} {r:List V -> Hp -> VK -> Prop}
noncomputable def tCB (r:List V -> Hp -> VK -> Prop) (t:TA):TE:=fun σ H Q => t σ H fun vs H1 => r vs H1 Q
theorem pe_callB (hc:CallR X (.builtin id) r) (hg:Gl X x) (hm:X.mg x = none) (hv:bootBuiltins x = some (.builtin id)) (ha:PA X (e :: es) t) (hn:x ≠ "__name__":=by decide) (hdb:(x == ("__debug__":Str)) = false:=by decide)
    (he:starEach (e :: es) X.env = (false,eval e X.env) :: starEach es X.env:=by rfl) (hpl:(backTo pos (starEach es X.env)).any (·.1) = false:=by rfl):PE X (.Call (.Name x p) (e :: es) [] pos) (tCB r t):=by
  intro pins s σ H Q I h
  refine wpAny_Call_Name_kw (ld_blt I hg hm hv ?_ hn hdb)
  exact PyProof.Rows.callWith_builtin1 (thn (ha pos pins s σ H _ I h) fun us s1 ⟨vs,H1,I1,r1,q1⟩ => hc pins s1 σ H1 vs us Q I1 r1 q1) he hpl
theorem pe_callTy (hc:CallR X (.type T) r) (hg:Gl X x) (hm:X.mg x = none) (hv:bootBuiltins x = some (.type T)) (ha:PA X (e :: es) t) (hn:x ≠ "__name__":=by decide) (hdb:(x == ("__debug__":Str)) = false:=by decide)
    (he:starEach (e :: es) X.env = (false,eval e X.env) :: starEach es X.env:=by rfl) (hpl:(backTo pos (starEach es X.env)).any (·.1) = false:=by rfl):PE X (.Call (.Name x p) (e :: es) [] pos) (tCB r t):=by
  intro pins s σ H Q I h
  refine wpAny_Call_Name_kw (ld_blt I hg hm hv ?_ hn hdb)
  exact PyProof.Rows.callWith_type1 (thn (ha pos pins s σ H _ I h) fun us s1 ⟨vs,H1,I1,r1,q1⟩ => hc pins s1 σ H1 vs us Q I1 r1 q1) he hpl
end
end L2
namespace HT
open PySem PyProof.Rows
section
open PySem.SeqAt
open PySem.AutoSeq1 (wpAny_loadPart')
open PySem.MeetsSeq PySem.MeetsSeq2 PySem.MeetsSeq3
end
section
variable {prog:Program} {w:World} {A:Around} {E:Value -> Shared -> Prop} {s:Shared}
theorem cat_tup {t b:Addr} {vs ws:List Value} {Q:Value -> Shared -> Prop} (ht:IsTup s.heap t vs.toArray) (hb:IsTup s.heap b ws.toArray) (hv:vs ≠ [])
    (h1:ws = [] -> Q (.ref t) s) (h2:ws ≠ [] -> Q (.ref s.heap.objs.size) { s with heap:=s.heap.push { cls:=.type "tuple",data:=.seq (vs ++ ws).toArray } })
    (hsz:vs.length + ws.length <= sizeLine):wpAny (model prog w) A (binaryOp .Add (.ref t) (.ref b)) Q E s:=by
  obtain ⟨⟨cls,dd,data,sl⟩,ho,hc,n,hd⟩:=id ht
  obtain ⟨⟨cls2,dd2,data2,sl2⟩,ho2,hc2,n2,hd2⟩:=id hb
  simp only at hc hd hc2 hd2
  subst hc hd hc2 hd2
  have e:vs.toArray ++ ws.toArray = (vs ++ ws).toArray:=by simp
  by_cases hw:ws = []
  . exact concat_meets ⟨_,ho,rfl⟩ ⟨_,ho2,rfl⟩ noFill_tuple_add seq_tuple_add PySem.F.slot_tuple_add PySem.F.entry_tuple_add (PySem.F.args_tuple_add_2 _ _)
      (tuple_addW1 t b vs.toArray ws.toArray n n2 dd dd2 sl sl2 (by simpa using hv) (by simp [hw])) ⟨ho,ho2,h1 hw⟩
  . refine concat_meets ⟨_,ho,rfl⟩ ⟨_,ho2,rfl⟩ noFill_tuple_add seq_tuple_add PySem.F.slot_tuple_add PySem.F.entry_tuple_add (PySem.F.args_tuple_add_2 _ _)
      (tuple_addW2 t b vs.toArray ws.toArray n n2 dd dd2 sl sl2 (by simpa using hv) (by simpa using hw) (by rw [List.size_toArray,List.size_toArray]; exact hsz)) ⟨ho,ho2,?_⟩
    rw [e]
    exact h2 hw
noncomputable def sIx (n d:Nat):Option Int -> Nat
  | none => d
  | some v => if v < 0 then (v + (n:Int)).toNat else min v.toNat n
theorem sIx_le (n d:Nat) (hd:d <= n) (o:Option Int):sIx n d o <= n:=by
  cases o with
  | none => exact hd
  | some v =>
    show (if v < 0 then (v + (n:Int)).toNat else min v.toNat n) <= n
    by_cases hv:v < 0
    . rw [if_pos hv]; omega
    . rw [if_neg hv]; exact Nat.min_le_right _ _
theorem clip_eq (v:Int) (n d:Nat):(if v < 0 then max (v + (n:Int)) 0 else min v (n:Int)) = ((sIx n d (some v):Nat):Int):=by
  show (if v < 0 then max (v + (n:Int)) 0 else min v (n:Int)) = (((if v < 0 then (v + (n:Int)).toNat else min v.toNat n):Nat):Int)
  by_cases hv:v < 0
  . simp only [if_pos hv]; omega
  . simp only [if_neg hv]; omega
theorem adjust_gen (lo hi:Option Int) (n:Nat):Builtin.Slice.sliceAdjust lo hi 1 (n:Int) = (((sIx n 0 lo:Nat):Int),((sIx n n hi:Nat):Int)):=by
  have h1:¬ ((1:Int) < 0):=by omega
  unfold Builtin.Slice.sliceAdjust
  simp only [h1,if_false]
  refine Prod.ext ?_ ?_
  . cases lo with
    | none => rfl
    | some v => exact clip_eq v n 0
  . cases hi with
    | none => rfl
    | some v => exact clip_eq v n n
theorem places_gen (i j:Nat):Builtin.Slice.slicePlaces (i:Int) (j:Int) 1 = j - i:=by
  unfold Builtin.Slice.slicePlaces
  have h1:(1:Int) > 0:=by omega
  simp only [h1,if_true,Int.ediv_one]
  split <;> omega
theorem slicePart_ {v:Value} {o:Option Int} {Q:Option Int -> Shared -> Prop} (p:IsPart v o) (h:Q o s):wpAny (model prog w) A (Builtin.Slice.slicePartIndex v) Q E s:=by
  cases p with
  | none => exact slicePart_none h
  | int i t => exact slicePart_int h
theorem sliceApplied_gen {sl:Addr} {vl vu:Value} {lo hi:Option Int} {n:Nat} {Q:Int×Int×Nat -> Shared -> Prop} (hs:s.heap.IsSliceOf sl vl vu .none) (pl:IsPart vl lo) (pu:IsPart vu hi)
    (h:Q (((sIx n 0 lo:Nat):Int),1,sIx n n hi - sIx n 0 lo) s):wpAny (model prog w) A (Builtin.Slice.sliceApplied (.ref sl) (pure (n:Int))) Q E s:=by
  obtain ⟨os,hos,hcs,hds⟩:=id hs
  unfold Builtin.Slice.sliceApplied Builtin.Slice.sliceFields
  refine wpAny_bind (wpAny_bind (wpAny_field hos hds (x:=vl) rfl (wpAny_bind (wpAny_field hos hds (x:=vu) rfl (wpAny_bind (wpAny_field hos hds (x:=.none) rfl (wpAny_pure ?_)))))))
  refine wpAny_bind (slicePart_none ?_)
  show wpAny _ _ (if ((1:Int) == 0) = true then _ else _) _ _ s
  rw [if_neg (by decide)]
  refine wpAny_bind (slicePart_ pl (wpAny_bind (slicePart_ pu (wpAny_bind (wpAny_pure ?_)))))
  show wpAny _ _ (match Builtin.Slice.sliceAdjust lo hi 1 (n:Int) with | (lo,hi) => pure (lo,(1:Int),Builtin.Slice.slicePlaces lo hi 1)) _ _ s
  rw [adjust_gen lo hi n]
  show wpAny _ _ (pure (((sIx n 0 lo:Nat):Int),(1:Int),Builtin.Slice.slicePlaces ((sIx n 0 lo:Nat):Int) ((sIx n n hi:Nat):Int) 1)) _ _ s
  rw [places_gen]
  exact wpAny_pure h
theorem pick_gen (xs:Array Value) (i k:Nat):((List.range k).filterMap fun (m:Nat) => xs[((i:Int) + (m:Int) * 1).toNat]?).toArray = ((xs.toList.drop i).take k).toArray:=by
  have e:(fun (m:Nat) => xs[((i:Int) + (m:Int) * 1).toNat]?) = fun m => xs[i + m]?:=by
    funext m
    have:((i:Int) + (m:Int) * 1).toNat = i + m:=by omega
    rw [this]
  rw [e]
  have:=pick_run xs i k
  rw [List.filterMap_map] at this
  have e2:((fun x => xs[x]?) ∘ fun x => i + x) = fun m => xs[i + m]?:=rfl
  rw [e2] at this
  rw [this]
theorem getItem_tuple_cut {t sl:Addr} {items:Array Value} {vl vu:Value} {lo hi:Option Int} {Q:Value -> Shared -> Prop} (ht:IsTup s.heap t items) (hs:s.heap.IsSliceOf sl vl vu .none) (pl:IsPart vl lo) (pu:IsPart vu hi)
    (hw:¬ (sIx items.size 0 lo = 0 /\ sIx items.size items.size hi = items.size))
    (h:Q (.ref s.heap.objs.size) { s with heap:=s.heap.push { cls:=.type "tuple",data:=.seq ((items.toList.drop (sIx items.size 0 lo)).take (sIx items.size items.size hi - sIx items.size 0 lo)).toArray } })
    (hsz:items.size <= sizeLine):wpAny (model prog w) A (getItem (.ref t) (.ref sl)) Q E s:=by
  have htake:sizeOk (.seq ((items.toList.drop (sIx items.size 0 lo)).take (sIx items.size items.size hi - sIx items.size 0 lo)).toArray):=by
    show ((items.toList.drop (sIx items.size 0 lo)).take (sIx items.size items.size hi - sIx items.size 0 lo)).toArray.size <= sizeLine
    rw [List.size_toArray,List.length_take,List.length_drop,Array.length_toList]
    omega
  have hj:sIx items.size items.size hi <= items.size:=sIx_le _ _ (Nat.le_refl _) hi
  obtain ⟨os,hos,hcs,hds⟩:=id hs
  have hTs:s.TypeIs (.ref sl) "slice":=⟨os,hos,hcs⟩
  unfold getItem
  try with_reducible refine wpAny_holding ?_
  first | refine wpAny_bind (wpAny_pure ?_) | skip
  refine wpAny_bind (wpAny_sequenceKey ht.typeIs (by decide) ?_)
  refine wpAny_bind (wpAny_callSpecial?_slot (name:=Str.ofString "__getitem__") ht.typeIs PyProof.Rows.slot_tuple_getitem
    (wpAny_call_entry PyProof.Rows.slot_tuple_getitem ht.typeIs entry_tuple_getitem ?_ (args_tuple_getitem _ _)))
  show wpAny _ _ (Builtin.Tuple.tupleItemsOf (.ref t) >>= _) _ _ s
  refine wpAny_bind (tupleItemsOf_ ht ?_)
  refine wpAny_bind (wpAny_typeOf hTs ?_)
  rw [if_pos (by decide)]
  refine wpAny_bind (sliceApplied_gen hs pl pu ?_)
  have hno:¬ ((((sIx items.size 0 lo:Nat):Int) == 0 && (1:Int) == 1 && (sIx items.size items.size hi - sIx items.size 0 lo) == items.size) = true):=by
    intro q
    rw [Bool.and_eq_true,Bool.and_eq_true] at q
    have q1:((sIx items.size 0 lo:Nat):Int) = 0:=eq_of_beq q.1.1
    have q2:sIx items.size items.size hi - sIx items.size 0 lo = items.size:=eq_of_beq q.2
    exact hw ⟨by omega,by omega⟩
  show wpAny _ _ (if (((sIx items.size 0 lo:Nat):Int) == 0 && (1:Int) == 1 && (sIx items.size items.size hi - sIx items.size 0 lo) == items.size) = true then _ else _) _ _ s
  rw [if_neg hno,pick_gen]
  first
    | exact wpAny_bind (m:=Builtin.Tuple.tupleExact _) (wpAny_newObj_type (wpAny_pure ⟨_,rfl,wpAny_pure h⟩) htake)
    | exact wpAny_bind (m:=Builtin.Tuple.tupleExact _) (wpAny_newObj_type (wpAny_bind (wpAny_pure (wpAny_pure ⟨_,rfl,wpAny_pure h⟩))) htake)
    | exact wpAny_bind (wpAny_bind (m:=Builtin.Tuple.tupleExact _) (wpAny_newObj_type (wpAny_pure (wpAny_pure ⟨_,rfl,wpAny_pure h⟩)) htake))
    | exact wpAny_bind (wpAny_bind (m:=Builtin.Tuple.tupleExact _) (wpAny_newObj_type (wpAny_pure ⟨_,rfl,wpAny_pure h⟩) htake))
end
end HT
namespace L2
open PySem PySem.Spec PyProof.Rows
noncomputable abbrev TO:=St -> Hp -> (Option Int -> Hp -> Prop) -> Prop
noncomputable def PO (X:Cx) (e:Option Expr) (t:TO):Prop :=
  ∀ (pins:List (Addr×Obj)) (s:Shared) (σ:St) (H:Hp) (Q:Option Int -> Hp -> Prop),Inv X pins σ H s -> t σ H Q ->
    wpAny (model X.prog X.w) X.A (evalPart e X.env) (fun u s' => ∃ o H',Inv X pins σ H' s' /\ IsPart u o /\ Q o H') X.xe s
noncomputable def tNoPart:TO:=fun _ H Q => Q none H
noncomputable def tPart (t:TE):TO:=fun σ H Q => t σ H fun x H1 => ∃ i,x = .int i /\ Q (some i) H1
section
variable {X:Cx} {e:Expr} {te:TE} {lo hi:Option Expr} {tl th:TO} {pos p2:Pos}
theorem po_none:PO X none tNoPart:=by
  intro pins s σ H Q I h
  rw [evalPart_none]
  exact wpAny_pure ⟨none,H,I,.none,h⟩
theorem po_some (h:PE X e te):PO X (some e) (tPart te):=by
  intro pins s σ H Q I hw
  rw [evalPart_some]
  refine thn (h pins s σ H _ I hw) fun u s1 ⟨x,H1,I1,r1,q1⟩ => ?_
  obtain ⟨i,rfl,q⟩:=q1
  obtain ⟨t,rfl⟩:=r1
  exact ⟨some i,H1,I1,.int i t,q⟩
noncomputable def SlR (X:Cx) (r:V -> Option Int -> Option Int -> Hp -> VK -> Prop):Prop :=
  ∀ (pins:List (Addr×Obj)) (s:Shared) (σ:St) (H:Hp) (x:V) (v vl vu:Value) (lo hi:Option Int) (sl:Addr) (Q:VK),Inv X pins σ H s -> RelV x v -> s.heap.IsSliceOf sl vl vu .none -> IsPart vl lo -> IsPart vu hi -> r x lo hi H Q ->
    ∃ T id,typeLookup (.type T) "__getitem__" = pure (some (.builtin id)) /\ s.TypeIs v T /\ wpAny (model X.prog X.w) X.A (getItem v (.ref sl)) (EP X pins σ Q) X.xe s
theorem SlR.or {r r':V -> Option Int -> Option Int -> Hp -> VK -> Prop} (h:SlR X r) (h':SlR X r'):SlR X (fun x lo hi H Q => r x lo hi H Q ∨ r' x lo hi H Q):=by
  intro pins s σ H x v vl vu lo hi sl Q I rx hs pl pu q
  rcases q with q | q
  . exact h pins s σ H x v vl vu lo hi sl Q I rx hs pl pu q
  . exact h' pins s σ H x v vl vu lo hi sl Q I rx hs pl pu q
noncomputable def tSl (r:V -> Option Int -> Option Int -> Hp -> VK -> Prop) (te:TE) (tl th:TO):TE:=fun σ H Q => te σ H fun x H1 => tl σ H1 fun l H2 => th σ H2 fun u H3 => r x l u H3 Q
theorem pe_slice {r:V -> Option Int -> Option Int -> Hp -> VK -> Prop} (hr:SlR X r) (he:PE X e te) (hl:PO X lo tl) (hu:PO X hi th):PE X (.Subscript e (.Slice lo hi none p2) pos) (tSl r te tl th):=by
  intro pins s σ H Q I h
  refine Subscript_ (thn (he pins s σ H _ I h) fun v s1 ⟨x,H1,I1,r1,q1⟩ => ?_)
  refine wpAny_Slice (thn (hl pins s1 σ H1 _ I1 q1) fun vl s2 ⟨l,H2,I2,pl,q2⟩ => thn (hu pins s2 σ H2 _ I2 q2) fun vu s3 ⟨u,H3,I3,pu,q3⟩ => ?_)
  rw [evalPart_none]
  refine wpAny_pure ?_
  have I4:Inv X pins σ H3 { s3 with heap:=s3.heap.push { cls:=.type "slice",data:=.fields #[vl,vu,.none] } }:=I3.kept (t':=s3.toks) fun b ob q => Heap.get?_push_of_some _ q
  obtain ⟨T,id,hT,ht,hg⟩:=hr pins { s3 with heap:=s3.heap.push { cls:=.type "slice",data:=.fields #[vl,vu,.none] } } σ H3 x v vl vu l u s3.heap.objs.size Q I4 r1 (Heap.IsSliceOf.new ..) pl pu q3
  show wpAny (model X.prog X.w) X.A (subscriptTail e (.Slice lo hi none p2) v (.ref s3.heap.objs.size)) (EP X pins σ Q) X.xe { s3 with heap:=s3.heap.push { cls:=.type "slice",data:=.fields #[vl,vu,.none] } }
  exact tail_any (ops:=[.ref s3.heap.objs.size,v]) ht hT hg (by with_unfolding_all rfl)
noncomputable def cutV (xs:List V) (lo hi:Option Int):List V:=(xs.drop (HT.sIx xs.length 0 lo)).take (HT.sIx xs.length xs.length hi - HT.sIx xs.length 0 lo)
theorem cutV_length (xs:List V) (lo hi:Option Int):(cutV xs lo hi).length <= xs.length:=by
  unfold cutV
  rw [List.length_take,List.length_drop]
  omega
noncomputable def rSlT (K:PySem.W.Frag):V -> Option Int -> Option Int -> Hp -> VK -> Prop:=fun x lo hi H Q => ∃ a xs,x = .ref a /\ SqT K H a xs /\
  ¬ (HT.sIx xs.length 0 lo = 0 /\ HT.sIx xs.length xs.length hi = xs.length) /\ ∀ p,H p = none -> Q (.ref p) (upd H p (.tup (cutV xs lo hi)))
theorem sl_tup:SlR X (rSlT X.K):=by
  intro pins s σ H x v vl vu lo hi sl Q I rx hs pl pu h
  obtain ⟨a,xs,rfl,hx,hw,q⟩:=h
  cases rx
  obtain ⟨its,r,ht,hz⟩:=I.tuple hx
  have hlen:its.toArray.size = xs.length:=by rw [List.size_toArray]; exact r.length.symm
  refine ⟨"tuple",_,PyProof.Rows.slot_tuple_getitem.lookup,ht.typeIs,?_⟩
  refine HT.getItem_tuple_cut ht hs pl pu (by rw [hlen]; exact hw) ?_ (by rw [hlen]; exact hz)
  rw [hlen]
  refine ⟨.ref s.heap.objs.size,_,I.laid (t':=s.toks) (o:=.tup (cutV xs lo hi)) (fun b ob q => Heap.get?_push_of_some _ q) (Nat.le_refl _) ?_,rfl,q _ (I.hok.fresh (Nat.le_refl _))⟩
  exact ⟨Nat.le_trans (cutV_length xs lo hi) hz,_,(r.drop (HT.sIx xs.length 0 lo)).take (HT.sIx xs.length xs.length hi - HT.sIx xs.length 0 lo),IsTup.new _ _⟩
noncomputable def rCatT (K:PySem.W.Frag):R2:=fun x y H Q => ∃ a b xs ys,x = .ref a /\ y = .ref b /\ SqT K H a xs /\ SqT K H b ys /\ xs ≠ [] /\ xs.length + ys.length <= sizeLine /\
  (ys = [] -> Q (.ref a) H) /\ (ys ≠ [] -> ∀ p,H p = none -> Q (.ref p) (upd H p (.tup (xs ++ ys))))
theorem Vals.nil_iff {xs:List V} {us:List Value} (r:Vals xs us):us = [] ↔ xs = []:=by
  cases r with
  | nil => simp
  | cons _ _ => simp
theorem op_catT:OpR X (binaryOp .Add) (rCatT X.K):=by
  intro pins s σ H x y v u Q I rx ry h
  obtain ⟨a,b,xs,ys,rfl,rfl,ha,hb,hx,hz,q1,q2⟩:=h
  cases rx
  cases ry
  obtain ⟨its,r1,p1,_⟩:=I.tuple ha
  obtain ⟨its2,r2,p2,_⟩:=I.tuple hb
  refine HT.cat_tup p1 p2 (fun z => hx (r1.nil_iff.mp z)) (fun z => ⟨.ref a,H,I,rfl,q1 (r2.nil_iff.mp z)⟩) (fun z => ?_) (by rw [← r1.length,← r2.length]; exact hz)
  refine ⟨.ref s.heap.objs.size,_,I.laid (t':=s.toks) (o:=.tup (xs ++ ys)) (fun b ob q => Heap.get?_push_of_some _ q) (Nat.le_refl _) ?_,rfl,q2 (fun w => z (r2.nil_iff.mpr w)) _ (I.hok.fresh (Nat.le_refl _))⟩
  exact ⟨by rw [List.length_append]; exact hz,_,r1.append r2,IsTup.new _ _⟩
end
end L2
namespace L2
open PySem PySem.Spec PyProof.Rows
noncomputable def ixN (n:Nat) (i:Int):Option Nat:=if 0 <= i then (if i < n then some i.toNat else none) else if -(n:Int) <= i then some (i + n).toNat else none
noncomputable def atI {α:Type} (xs:List α) (i:Int):Option α:=(ixN xs.length i).bind fun j => xs[j]?
theorem ixN_seq {n:Nat} {i:Int} {j:Nat} (h:ixN n i = some j):seqIndex? i n = some j /\ j < n /\ -(n:Int) <= i /\ i < n:=by
  unfold ixN at h
  by_cases h0:0 <= i
  . rw [if_pos h0] at h
    by_cases h1:i < n
    . rw [if_pos h1] at h
      have e:i.toNat = j:=Option.some.inj h
      exact ⟨by rw [seqIndex_of h0 h1,e],by omega,by omega,h1⟩
    . rw [if_neg h1] at h; cases h
  . rw [if_neg h0] at h
    by_cases h1:-(n:Int) <= i
    . rw [if_pos h1] at h
      have e:(i + n).toNat = j:=Option.some.inj h
      exact ⟨by rw [seqIndex_neg (by omega) h1,e],by omega,h1,by omega⟩
    . rw [if_neg h1] at h; cases h
theorem atI_get {α:Type} {xs:List α} {i:Int} {v:α} (h:atI xs i = some v):∃ j,seqIndex? i xs.length = some j /\ xs[j]? = some v /\ j < xs.length /\ -(xs.length:Int) <= i /\ i < xs.length:=by
  unfold atI at h
  cases e:ixN xs.length i with
  | none => rw [e] at h; cases h
  | some j =>
    rw [e] at h
    obtain ⟨h1,h2,h3,h4⟩:=ixN_seq e
    exact ⟨j,h1,h,h2,h3,h4⟩
theorem atI_nat {α:Type} {xs:List α} {j:Nat} {v:α} (h:xs[j]? = some v):atI xs (j:Int) = some v:=by
  have hj:j < xs.length:=(List.getElem?_eq_some_iff.mp h).1
  have e:ixN xs.length (j:Int) = some j:=by
    unfold ixN
    rw [if_pos (by omega),if_pos (by omega)]; simp
  unfold atI; rw [e]; exact h
noncomputable def PlainIx (b:Expr):Prop:=∀ o i,subscripted b false o i = operate [o,i] (getItem o i)
noncomputable def IxR (X:Cx) (r:R2):Prop :=
  ∀ (value slice:Expr) (pins:List (Addr×Obj)) (s:Shared) (σ:St) (H:Hp) (x y:V) (v u:Value) (Q:VK),Inv X pins σ H s -> RelV x v -> RelV y u -> r x y H Q ->
    subscripted slice false v u = operate [v,u] (getItem v u) -> wpAny (model X.prog X.w) X.A (subscriptTail value slice v u) (EP X pins σ Q) X.xe s
noncomputable def MtR (X:Cx) (id:String) (r:V -> List V -> Hp -> VK -> Prop):Prop :=
  ∀ (pins:List (Addr×Obj)) (s:Shared) (σ:St) (H:Hp) (x:V) (xs:List V) (v:Value) (us:List Value) (Q:VK),Inv X pins σ H s -> RelV x v -> Vals xs us -> r x xs H Q ->
    wpAny (model X.prog X.w) X.A (call (.builtin id) (v :: us)) (EP X pins σ Q) X.xe s
section
variable {X:Cx} {a b:Expr} {ta tb:TE} {pos:Pos}
theorem IxR.or {r r':R2} (h:IxR X r) (h':IxR X r'):IxR X (fun x y H Q => r x y H Q ∨ r' x y H Q):=by
  intro value slice pins s σ H x y v u Q I rx ry q hs
  rcases q with q | q
  . exact h value slice pins s σ H x y v u Q I rx ry q hs
  . exact h' value slice pins s σ H x y v u Q I rx ry q hs
theorem MtR.or {id:String} {r r':V -> List V -> Hp -> VK -> Prop} (h:MtR X id r) (h':MtR X id r'):MtR X id (fun x xs H Q => r x xs H Q ∨ r' x xs H Q):=by
  intro pins s σ H x xs v us Q I rx rs q
  rcases q with q | q
  . exact h pins s σ H x xs v us Q I rx rs q
  . exact h' pins s σ H x xs v us Q I rx rs q
theorem pe_ix {r:R2} (hr:IxR X r) (ha:PE X a ta) (hb:PE X b tb) (hs:PlainIx b):PE X (.Subscript a b pos) (tOp r ta tb):=by
  intro pins s σ H Q I h
  exact Subscript_ (binT ha hb I h fun v u s2 x y H2 I2 rx ry q => hr a b pins s2 σ H2 x y v u Q I2 rx ry q (hs _ _))
noncomputable def rIxL (K:PySem.W.Frag):R2:=fun x y H Q => ∃ p xs i v,x = .ref p /\ y = .int i /\ SqL K H p xs /\ atI xs i = some v /\ Q v H
noncomputable def rIxT (K:PySem.W.Frag):R2:=fun x y H Q => ∃ p xs i v,x = .ref p /\ y = .int i /\ SqT K H p xs /\ atI xs i = some v /\ Q v H
noncomputable def rIxS:R2:=fun x y H Q => ∃ z i c,x = .str z /\ y = .int i /\ z.length <= sizeLine /\ atI z.cps.toList i = some c /\ Q (.str ⟨#[c]⟩) H
theorem ix_list:IxR X (rIxL X.K):=by
  intro value slice pins s σ H x y v u Q I rx ry h hs
  obtain ⟨p,xs,i,z,rfl,rfl,hq,he,q⟩:=h
  cases rx
  obtain ⟨t,rfl⟩:=ry
  obtain ⟨its,r,pl,hz⟩:=I.list hq
  obtain ⟨j,h1,h2,h3,h4,h5⟩:=atI_get he
  obtain ⟨w,ew,rw'⟩:=r.get h2
  have hl:=r.length
  have hn:=line63
  have fin:EP X pins σ Q w s:=⟨z,H,I,rw',q⟩
  by_cases h0:0 <= i
  . have hj:i.toNat = j:=by
      rw [seqIndex_of h0 h5] at h1
      exact Option.some.inj h1
    exact item_listR pl.isList h0 (by omega) (by rw [hj]; simpa using ew) fin hs
  . have hj:(i + (its.toArray.size:Int)).toNat = j:=by
      rw [seqIndex_neg (by omega) h4] at h1
      rw [List.size_toArray,← hl]
      exact Option.some.inj h1
    exact subscriptTail_builtinR (x:=w) pl.isList.typeIs slot_list_getitem.lookup
      (wpAny_getItem_list_neg (Q:=fun r s' => r = w /\ EP X pins σ Q r s') pl.isList (by omega) (by rw [List.size_toArray] <;> omega) (by omega) (by rw [hj]; simpa using ew) ⟨rfl,fin⟩) hs
theorem ix_tup:IxR X (rIxT X.K):=by
  intro value slice pins s σ H x y v u Q I rx ry h hs
  obtain ⟨p,xs,i,z,rfl,rfl,hq,he,q⟩:=h
  cases rx
  obtain ⟨t,rfl⟩:=ry
  obtain ⟨its,r,pl,hz⟩:=I.tuple hq
  obtain ⟨j,h1,h2,h3,h4,h5⟩:=atI_get he
  obtain ⟨w,ew,rw'⟩:=r.get h2
  have hl:=r.length
  have hn:=line63
  have fin:EP X pins σ Q w s:=⟨z,H,I,rw',q⟩
  exact subscriptTail_builtinR (x:=w) pl.typeIs slot_tuple_getitem.lookup
    (getItem_tuple (j:=j) (Q:=fun r s' => r = w /\ EP X pins σ Q r s') pl (by omega) (by omega) (by rw [List.size_toArray,← hl]; exact h1) (by simpa using ew) ⟨rfl,fin⟩) hs
theorem ix_str:IxR X rIxS:=by
  intro value slice pins s σ H x y v u Q I rx ry h hs
  obtain ⟨z,i,c,rfl,rfl,hz,he,q⟩:=h
  obtain ⟨t,rfl⟩:=rx
  obtain ⟨t',rfl⟩:=ry
  obtain ⟨j,h1,h2,h3,h4,h5⟩:=atI_get he
  have hl:z.cps.toList.length = z.length:=by simp [Str.length]
  rw [hl] at h1 h4 h5
  have hn:=line63
  exact tail_any (typeIs_str s z t) slot_str_getitem.lookup (getItem_str (c:=c) (by
    have e1:decide (i < -(2 ^ 63:Int)) = false:=decide_eq_false (by omega)
    have e2:decide (i ≥ 2 ^ 63) = false:=decide_eq_false (by omega)
    rw [e1,e2,Bool.or_false]) (by rw [h1]; simpa using h2) ⟨.str ⟨#[c]⟩,H,I.tok _,⟨_,rfl⟩,q⟩) hs
noncomputable def rIx (K:PySem.W.Frag):R2:=fun x y H Q => rIxL K x y H Q ∨ rIxT K x y H Q ∨ rIxS x y H Q
theorem ix_seq:IxR X (rIx X.K):=ix_list.or (ix_tup.or ix_str)
theorem Inv.lst {pins:List (Addr×Obj)} {σ:St} {H:Hp} {s:Shared} {p:Addr} {xs:List V} (I:Inv X pins σ H s) (h:H p = some (.lst xs)) :
    ∃ (its:List Value) (n:Nat),Vals xs its /\ s.heap.get? p = some { cls:=.type "list",data:=.seq its.toArray n } /\ xs.length <= sizeLine:=by
  obtain ⟨z,its,n,r,e⟩:=I.hok p _ h
  exact ⟨its,n,r,e,z⟩
theorem slice_bounds (lo hi:Option Int) (n:Nat):(sliceBounds lo hi none n).1 = ((HT.sIx n 0 lo:Nat):Int) /\ (sliceBounds lo hi none n).2.1 = ((HT.sIx n n hi:Nat):Int) /\ (sliceBounds lo hi none n).2.2 = 1:=by
  refine ⟨?_,?_,rfl⟩
  . cases lo with
    | none => simp [sliceBounds,HT.sIx]
    | some i =>
      simp only [sliceBounds,HT.sIx,Option.getD_none,show (1:Int) > 0 by decide,if_true]
      by_cases h:i < 0
      . simp only [h,if_true] <;> omega
      . simp only [h,if_false] <;> omega
  . cases hi with
    | none => simp [sliceBounds,HT.sIx]
    | some i =>
      simp only [sliceBounds,HT.sIx,Option.getD_none,show (1:Int) > 0 by decide,if_true]
      by_cases h:i < 0
      . simp only [h,if_true] <;> omega
      . simp only [h,if_false] <;> omega
theorem slicePick_cut (its:List Value) (lo hi:Option Int):slicePick its.toArray lo hi none = ((its.drop (HT.sIx its.length 0 lo)).take (HT.sIx its.length its.length hi - HT.sIx its.length 0 lo)).toArray:=by
  obtain ⟨h1,h2,h3⟩:=slice_bounds lo hi its.toArray.size
  unfold slicePick
  rw [h1,h2,h3]
  simp only [sliceRange_one,pick_run,List.size_toArray] <;> rfl
noncomputable def rSlL (K:PySem.W.Frag):V -> Option Int -> Option Int -> Hp -> VK -> Prop:=fun x lo hi H Q => ∃ a xs,x = .ref a /\ SqL K H a xs /\ ∀ p,H p = none -> Q (.ref p) (upd H p (.lst (cutV xs lo hi)))
theorem sl_list:SlR X (rSlL X.K):=by
  intro pins s σ H x v vl vu lo hi sl Q I rx hs pl pu h
  obtain ⟨a,xs,rfl,hx,q⟩:=h
  cases rx
  obtain ⟨its,r,ht,hz⟩:=I.list hx
  have hlen:=r.length
  refine ⟨"list",_,slot_list_getitem.lookup,ht.isList.typeIs,?_⟩
  refine wpAny_getItem_list_slice ht.isList hs pl pu .none (by simp) ?_ (by rw [List.size_toArray] <;> omega)
  rw [slicePick_cut,← hlen]
  refine ⟨.ref s.heap.objs.size,_,I.laid (t':=s.toks) (o:=.lst (cutV xs lo hi)) (fun b ob q => Heap.get?_push_of_some _ q) (Nat.le_refl _) ?_,rfl,q _ (I.hok.fresh (Nat.le_refl _))⟩
  exact ⟨Nat.le_trans (cutV_length xs lo hi) hz,_,0,(r.drop (HT.sIx xs.length 0 lo)).take (HT.sIx xs.length xs.length hi - HT.sIx xs.length 0 lo),Heap.get?_push_size _ rfl⟩
noncomputable def flatV:V -> Bool
  | .non => true
  | .bl _ => true
  | .int _ => true
  | .str _ => true
  | _ => false
theorem CallR.or {f:Value} {r r':List V -> Hp -> VK -> Prop} (h:CallR X f r) (h':CallR X f r'):CallR X f (fun xs H Q => r xs H Q ∨ r' xs H Q):=by
  intro pins s σ H xs us Q I rs q
  rcases q with q | q
  . exact h pins s σ H xs us Q I rs q
  . exact h' pins s σ H xs us Q I rs q
theorem call_list_of:CallR X (.type "list") (fun xs H Q => ∃ p ys,xs = [.ref p] /\ (SqL X.K H p ys ∨ SqT X.K H p ys) /\ ∀ l,H l = none -> Q (.ref l) (upd H l (.lst ys))):=by
  intro pins s σ H xs us Q I r h
  obtain ⟨p,ys,rfl,hq,q⟩:=h
  obtain ⟨u,rfl,rx⟩:=vals1 r
  cases rx
  have fin:∀ (its:List Value),Vals ys its -> ys.length <= sizeLine -> ∀ (h':Heap) (c':Nat),(∀ b o',s.heap.get? b = some o' -> h'.get? b = some o') ->
      h'.get? s.heap.objs.size = some { cls:=.type "list",dict:=none,data:=.seq its.toArray c',slots:=#[] } -> EP X pins σ Q (.ref s.heap.objs.size) { s with heap:=h' }:=fun its r' hz h' c' kp e =>
    ⟨.ref s.heap.objs.size,_,I.laid (t':=s.toks) kp (Nat.le_refl _) (show ObjOk X.prog X.w _ h' _ (.lst ys) from ⟨hz,its,c',r',e⟩),rfl,q _ (I.hok.fresh (Nat.le_refl _))⟩
  rcases hq with hq | hq
  . obtain ⟨its,r',pl,hz⟩:=I.list hq
    have hlen:=r'.length
    obtain ⟨o,ho,hc,n,hd⟩:=pl.isList
    exact call_list_seq p (.inl rfl) ho hc hd (fun h' c' kp e => fin its r' hz h' c' kp e) (by simp only [List.size_toArray] <;> omega)
  . obtain ⟨its,r',pl,hz⟩:=I.tuple hq
    have hlen:=r'.length
    obtain ⟨o,ho,hc,n,hd⟩:=pl
    exact call_list_seq p (.inr rfl) ho hc hd (fun h' c' kp e => fin its r' hz h' c' kp e) (by simp only [List.size_toArray] <;> omega)
theorem call_tuple_of:CallR X (.type "tuple") (fun xs H Q => ∃ p ys,xs = [.ref p] /\ ((SqL X.K H p ys /\ ∀ l,H l = none -> Q (.ref l) (upd H l (.tup ys))) ∨ (SqT X.K H p ys /\ Q (.ref p) H))):=by
  intro pins s σ H xs us Q I r h
  obtain ⟨p,ys,rfl,h⟩:=h
  obtain ⟨u,rfl,rx⟩:=vals1 r
  cases rx
  rcases h with ⟨hq,q⟩ | ⟨hq,q⟩
  . obtain ⟨its,r',pl,hz⟩:=I.list hq
    have hlen:=r'.length
    refine call_tuple_list pl.isList (fun h' kp => ?_) (by simp only [List.size_toArray] <;> omega)
    have I1:Inv X pins σ H { s with heap:=h' }:=I.kept (t':=s.toks) kp
    have I2:Inv X pins σ (upd H h'.objs.size (.tup ys)) { s with heap:=h'.push { cls:=.type "tuple",data:=.seq its.toArray } } :=
      I1.laid (t':=s.toks) (fun b o e => Heap.get?_push_of_some _ e) (Nat.le_refl _) (show ObjOk X.prog X.w _ _ _ (.tup ys) from ⟨hz,its,r',IsTup.new _ _⟩)
    exact ⟨.ref h'.objs.size,_,I2,rfl,q _ (I1.hok.fresh (Nat.le_refl _))⟩
  . obtain ⟨its,r',pl,hz⟩:=I.tuple hq
    exact call_tuple_same pl ⟨.ref p,H,I,rfl,q⟩
noncomputable def tyV (K:PySem.W.Frag) (T:String) (x:V) (H:Hp):Prop:=match x with
  | .str _ => T = "str"
  | .int _ => T = "int"
  | .ref p => (T = "list" /\ ∃ xs,SqL K H p xs) ∨ (T = "tuple" /\ ∃ o,K.lookup p = some o /\ o.cls = .type "tuple" /\ o.dict = none) ∨
      (T = "dict" /\ ((∃ kvs,H p = some (.dK kvs)) ∨ ∃ kvs,H p = some (.dT kvs))) ∨ (T = "set" /\ ∃ S n,H p = some (.set S n))
  | _ => False
theorem tyV_is {pins:List (Addr×Obj)} {σ:St} {H:Hp} {s:Shared} {T:String} {x:V} {v:Value} (I:Inv X pins σ H s) (r:RelV x v) (ty:tyV X.K T x H) :
    s.TypeIs v T /\ ∀ a,v = .ref a -> ∃ ob,s.heap.get? a = some ob /\ ob.dict = none:=by
  cases x with
  | str z =>
    obtain ⟨t,rfl⟩:=r
    cases (show T = "str" from ty)
    exact ⟨typeIs_str s z t,fun _ e => nomatch e⟩
  | int i =>
    obtain ⟨t,rfl⟩:=r
    cases (show T = "int" from ty)
    exact ⟨typeIs_int s i t,fun _ e => nomatch e⟩
  | ref p =>
    cases r
    rcases ty with ⟨rfl,xs,hq⟩ | ⟨rfl,o,hk,hc,hd⟩ | ⟨rfl,hk⟩ | ⟨rfl,S,n,hk⟩
    . obtain ⟨its,_,pl,_⟩:=I.list hq
      refine ⟨pl.isList.typeIs,fun a e => ?_⟩
      cases e
      obtain ⟨o,n,e,c,hd,_⟩:=pl
      exact ⟨o,e,hd⟩
    . refine ⟨⟨o,I.kIn p o hk,hc⟩,fun a e => ?_⟩
      cases e
      exact ⟨o,I.kIn _ o hk,hd⟩
    . have z:∃ o,s.heap.get? p = some o /\ o.ExactDict:=by
        rcases hk with ⟨kvs,hk⟩ | ⟨kvs,hk⟩
        . obtain ⟨_,_,_,_,o,_,_,e,ex,_⟩:=I.hok p _ hk
          exact ⟨o,e,ex⟩
        . obtain ⟨_,_,_,_,o,_,_,e,ex,_⟩:=I.hok p _ hk
          exact ⟨o,e,ex⟩
      obtain ⟨o,e,ex⟩:=z
      refine ⟨⟨o,e,ex.1⟩,fun a e2 => ?_⟩
      cases e2
      exact ⟨o,e,ex.2.1⟩
    . obtain ⟨o,_,_,_,e,ex,_⟩:=I.hok p _ hk
      refine ⟨⟨o,e,ex.1⟩,fun a e2 => ?_⟩
      cases e2
      exact ⟨o,e,ex.2.1⟩
  | _ => exact False.elim ty
noncomputable def tBM0 (K:PySem.W.Frag) (T:String) (r:V -> List V -> Hp -> VK -> Prop) (to:TE):TE:=fun σ H Q => to σ H fun x H1 => tyV K T x H1 /\ r x [] H1 Q
noncomputable def tBM (K:PySem.W.Frag) (T:String) (r:V -> List V -> Hp -> VK -> Prop) (to:TE) (t:TA):TE:=fun σ H Q => to σ H fun x H1 => tyV K T x H1 /\ t σ H1 fun xs H2 => r x xs H2 Q
variable {o e:Expr} {es:List Expr} {to:TE} {t:TA} {name:Str} {apos cpos:Pos} {T id:String} {r:V -> List V -> Hp -> VK -> Prop}
theorem pe_bm (pa:PlainAttrs T) (slot:Slot T name id) (hty:typeOf (.builtin id) = pure (.type "method_descriptor")) (hm:MtR X id r) (ho:PE X o to) (ha:PA X (e :: es) t)
    (hbase:attributeBase o name X.env (eval o X.env) = eval o X.env:=by rfl)
    (hfew:((backTo cpos (starEach (e :: es) X.env)).all (fun x => !x.1) && (backToKw cpos (keywordEach [] X.env)).all (fun x => x.1.isSome)
      && decide ((e :: es).length + ([]:List Keyword).length + (if ([]:List Keyword).isEmpty then 0 else 1) < 30)) = true:=by rfl)
    (hline:(apos.endLine == cpos.line) = true:=by rfl) (hs:starEach (e :: es) X.env = (false,eval e X.env) :: starEach es X.env:=by rfl) (hplain:(backTo cpos (starEach es X.env)).any (·.1) = false:=by rfl) :
    PE X (.Call (.Attribute o name apos) (e :: es) [] cpos) (tBM X.K T r to t):=by
  intro pins s σ H Q I h
  refine wpAny_Call_method_late hbase hfew hline rfl (thn (ho pins s σ H _ I h) fun v s1 ⟨x,H1,I1,r1,ty,q1⟩ => ?_)
  obtain ⟨h1,h2⟩:=tyV_is I1 r1 ty
  refine ⟨T,id,pa,slot,hty,h1,h2,?_⟩
  have hA:=ha cpos pins s1 σ H1 _ I1 q1
  rw [hs] at hA ⊢
  refine Calls.callWith_builtin (by show (false || (backTo cpos (starEach es X.env)).any (·.1)) = false; rw [hplain] <;> rfl) (Calls.evalArgs_plain ?_)
  exact thn hA fun us s2 ⟨vs,H2,I2,r2,q2⟩ => hm pins s2 σ H2 x vs v us Q I2 r1 r2 q2
/- xs.append(e),list.index on a module's tuple .. are MtR facts of 06m -/
end
end L2
namespace L2
open PySem PySem.Spec PyProof.Rows
noncomputable def MtM (X:Cx) (id:String) (r:V -> List V -> Hp -> VK -> Prop):Prop :=
  ∀ (pins:List (Addr×Obj)) (s:Shared) (σ:St) (H:Hp) (x:V) (xs:List V) (v:Value) (us:List Value) (Q:VK),Inv X pins σ H s -> RelV x v -> Vals xs us -> r x xs H Q ->
    wpAny (model X.prog X.w) X.A (call (.builtin id) (v :: us)) (EP X pins σ Q) X.xe s
theorem Vals.one:∀ {x:V} {us:List Value},Vals [x] us -> ∃ u,us = [u] /\ RelV x u
 :=fun h => by cases h with | cons r h => cases h; exact ⟨_,rfl,r⟩
theorem Vals.two:∀ {x y:V} {us:List Value},Vals [x,y] us -> ∃ u v,us = [u,v] /\ RelV x u /\ RelV y v
 :=fun h => by cases h with | cons r h => cases h with | cons q h => cases h; exact ⟨_,_,rfl,r,q⟩
theorem Vals.zero:∀ {us:List Value},Vals [] us -> us = []
  | _,.nil => rfl
theorem Vals.dropLast {xs:List V} {us:List Value} (h:Vals xs us):Vals xs.dropLast us.dropLast:=by
  induction h with
  | nil => exact .nil
  | cons r t ih =>
    cases t with
    | nil => exact .nil
    | cons q t' => exact .cons r ih
theorem Vals.eraseIdx:∀ {xs:List V} {us:List Value} (i:Nat),Vals xs us -> Vals (xs.eraseIdx i) (us.eraseIdx i)
  | _,_,_,.nil => .nil
  | _,_,0,.cons _ t => t
  | _,_,i + 1,.cons r t => .cons r (Vals.eraseIdx i t)
theorem Vals.reverse {xs:List V} {us:List Value} (h:Vals xs us):Vals xs.reverse us.reverse:=by
  induction h with
  | nil => exact .nil
  | cons r t ih => rw [List.reverse_cons,List.reverse_cons]; exact Vals.append ih (.cons r .nil)
theorem len_erase {α:Type}:∀ (l:List α) (i:Nat),(l.eraseIdx i).length <= l.length
  | [],_ => Nat.le_refl _
  | _ :: _,0 => Nat.le_succ _
  | _ :: r,i + 1 => Nat.succ_le_succ (len_erase r i)
section
variable {X:Cx} {pins:List (Addr×Obj)} {σ:St} {H:Hp} {s:Shared} {l b:Addr} {xs ys zs:List V}
theorem Inv.lset {its its':List Value} {n:Nat} {f:Array Value -> Array Value} {t':Nat} (I:Inv X pins σ H s) (hH:H l = some (.lst xs))
    (e:s.heap.get? l = some { cls:=.type "list",data:=.seq its.toArray n }) (hf:f its.toArray = its'.toArray) (hv:Vals ys its') (hz:ys.length <= sizeLine) :
    Inv X pins σ (upd H l (.lst ys)) { s with heap:=s.heap.update l (Obj.mapSeq f),toks:=t' }:=by
  have q:=PySem.IsL.update e f
  rw [hf] at q
  refine I.write (x:=l) (e:=l) (by rw [hH]; exact trivial) (.inl rfl) (fun b' u hb hu => (Heap.get?_update_other s.heap (Obj.mapSeq f) (Ne.symm hb)).trans hu) ⟨_,q⟩ ?_
  exact ⟨hz,its',_,hv,q⟩
theorem Inv.lnew {its:List Value} {t':Nat} (I:Inv X pins σ H s) (hv:Vals ys its) (hz:ys.length <= sizeLine) :
    Inv X pins σ (upd H s.heap.objs.size (.lst ys)) { s with heap:=s.heap.push { cls:=.type "list",data:=.seq its.toArray },toks:=t' } :=
  I.laid (fun _ _ q => Heap.get?_push_of_some _ q) (Nat.le_refl _) ⟨hz,its,0,hv,Heap.get?_push_size _ rfl⟩
theorem Inv.fresh (I:Inv X pins σ H s):H s.heap.objs.size = none:=I.hok.fresh (Nat.le_refl _)
theorem Inv.lstM (I:Inv X pins σ H s) (hH:H l = some (.lst xs)):xs.length <= sizeLine /\ ∃ (its:List Value) (n:Nat),Vals xs its /\ xs.length = its.length /\ s.heap.get? l = some { cls:=.type "list",data:=.seq its.toArray n }:=by
  obtain ⟨z,its,n,r,e⟩:=I.hok l _ hH
  exact ⟨z,its,n,r,r.length,e⟩
theorem notLongL {n:Nat} (h:n <= sizeLine):Builtin.List.listTooLong n = false:=by
  unfold Builtin.List.listTooLong
  exact decide_eq_false (by omega)
end
section
variable {X:Cx}
noncomputable def rAppend:V -> List V -> Hp -> VK -> Prop:=fun x vs H Q => ∃ l xs y,x = .ref l /\ vs = [y] /\ H l = some (.lst xs) /\ xs.length < sizeLine /\ Q .non (upd H l (.lst (xs ++ [y])))
theorem mt_append:MtM X "list.append" rAppend:=by
  intro pins s σ H x vs v us Q I rx rv h
  obtain ⟨l,xs,y,rfl,rfl,hH,hz,q⟩:=h
  cases rx
  obtain ⟨u,rfl,ru⟩:=rv.one
  obtain ⟨z,its,n,r,hl,e⟩:=I.lstM hH
  refine call_meets F.slot_list_append ⟨_,e,rfl⟩ F.entry_list_append (F.args_list_append_2 _ _) (PySem.list_append l its.toArray n u (by rw [List.size_toArray]; omega)) ⟨e,?_⟩
  refine ⟨.non,_,I.lset (its':=its ++ [u]) hH e (by simp) (r.append (.cons ru .nil)) ?_,rfl,q⟩
  rw [List.length_append,List.length_singleton]
  omega
noncomputable def rExtend:V -> List V -> Hp -> VK -> Prop:=fun x vs H Q => ∃ l b xs zs,x = .ref l /\ vs = [.ref b] /\ H l = some (.lst xs) /\ H b = some (.lst zs) /\ xs.length + zs.length <= sizeLine /\ Q .non (upd H l (.lst (xs ++ zs)))
theorem mt_extend:MtM X "list.extend" rExtend:=by
  intro pins s σ H x vs v us Q I rx rv h
  obtain ⟨l,b,xs,zs,rfl,rfl,hH,hB,hz,q⟩:=h
  cases rx
  obtain ⟨u,rfl,ru⟩:=rv.one
  cases ru
  obtain ⟨z,its,n,r,hl,e⟩:=I.lstM hH
  obtain ⟨z2,its2,n2,r2,hl2,e2⟩:=I.lstM hB
  have hsz:its.toArray.size + its2.toArray.size <= sizeLine:=by rw [List.size_toArray,List.size_toArray]; omega
  have hlong:¬ (!its.toArray.isEmpty && Builtin.List.listTooLong (its.toArray.size + its2.toArray.size)) = true:=by
    rw [notLongL hsz,Bool.and_false]
    exact Bool.false_ne_true
  refine call_meets F.slot_list_extend ⟨_,e,rfl⟩ F.entry_list_extend (F.args_list_extend_2 _ _)
    (AutoSeq1.list_extend_list_list_0 l its.toArray n b its2.toArray n2 hlong (by rw [List.size_toArray]; omega) (by omega)) ⟨e,e2,?_⟩
  refine ⟨.non,_,I.lset (its':=its ++ its2) hH e (by simp) (r.append r2) ?_,rfl,q⟩
  rw [List.length_append]
  omega
noncomputable def rPopAt:V -> List V -> Hp -> VK -> Prop:=fun x vs H Q => ∃ l xs i k y,x = .ref l /\ vs = [.int i] /\ H l = some (.lst xs) /\ -(2 ^ 63) <= i /\ i < 2 ^ 63 /\ seqIndex? i xs.length = some k /\ xs[k]? = some y /\ Q y (upd H l (.lst (xs.eraseIdx k)))
theorem mt_popAt:MtM X "list.pop" rPopAt:=by
  intro pins s σ H x vs v us Q I rx rv h
  obtain ⟨l,xs,i,k,y,rfl,rfl,hH,h1,h2,hk,hy,q⟩:=h
  cases rx
  obtain ⟨u,rfl,ru⟩:=rv.one
  obtain ⟨t,rfl⟩:=ru
  obtain ⟨z,its,n,r,hl,e⟩:=I.lstM hH
  obtain ⟨w,hw,rw'⟩:=r.get hy
  refine call_meets F.slot_list_pop ⟨_,e,rfl⟩ F.entry_list_pop (F.args_list_pop_2 _ _)
    (MeetsSeq.list_pop_at l its.toArray n i t k w (fitsIndex_both h1 h2) (by rw [List.size_toArray,← hl]; exact hk) (by rw [← Array.getElem?_toList]; exact hw) (by rw [List.size_toArray]; omega)) ⟨e,?_⟩
  refine ⟨y,_,I.lset (its':=its.eraseIdx k) hH e ?_ (r.eraseIdx k) ?_,rw',q⟩
  . show its.toArray.eraseIdxIfInBounds k = (its.eraseIdx k).toArray
    rw [List.eraseIdxIfInBounds_toArray]
  . have:=len_erase xs k
    omega
noncomputable def rCat:R2:=fun x y H Q => ∃ l b xs zs,x = .ref l /\ y = .ref b /\ H l = some (.lst xs) /\ H b = some (.lst zs) /\ xs.length + zs.length <= sizeLine /\ ∀ p,H p = none -> Q (.ref p) (upd H p (.lst (xs ++ zs)))
theorem op_cat:OpR X (binaryOp .Add) rCat:=by
  intro pins s σ H x y v u Q I rx ry h
  obtain ⟨l,b,xs,zs,rfl,rfl,hH,hB,hz,q⟩:=h
  cases rx
  cases ry
  obtain ⟨z,its,n,r,hl,e⟩:=I.lstM hH
  obtain ⟨z2,its2,n2,r2,hl2,e2⟩:=I.lstM hB
  refine PySem.P.add_list e e2 ?_ (by rw [List.size_toArray,List.size_toArray]; omega)
  have ea:its.toArray ++ its2.toArray = (its ++ its2).toArray:=by simp
  rw [ea]
  exact ⟨.ref _,_,I.lnew (t':=s.toks) (r.append r2) (by rw [List.length_append]; omega),rfl,q _ I.fresh⟩
end
section
variable {prog:Program} {w:World} {A:Around} {E:Value -> Shared -> Prop} {s:Shared}
end
section
variable {X:Cx}
end
end L2
namespace Att
open PySem PySem.W PySem.Calls PyProof.Rows
theorem ints_of_wellAll {P:Params} {h:Heap}:∀ (ns:List Int) (vs:List Value),WellAll P h vs (ns.map WData.int) -> IntsAre vs ns:=by
  intro ns
  induction ns with
  | nil =>
    intro vs w
    rw [List.map_nil] at w
    cases w
    exact .nil
  | cons n ns ih =>
    intro vs w
    rw [List.map_cons] at w
    cases w with
    | cons a b =>
      cases a
      exact .cons _ _ (ih _ b)
theorem script_of {l:OpenLaw} {n:Nat} (hn:l.most = some n) {P:Params} {h:Heap} {args:List WData} {vals:List Value}
    (hpre:l.row.toRowW.claim.pre args = true) (hwl:WellAll P h vals args) :
    ∃ a vs ns,vals = [Value.ref a] /\ args = [WData.list (ns.map WData.int)] /\ h.get? a = some { cls:=.type "list",data:=.seq vs.toArray } /\ IntsAre vs ns /\ ns.length <= n:=by
  have hsh:WShape.hasAll [] args [.list .int] = true:=(pre_splitW hpre).1
  have hc:l.pre.holds [] { args:=args } = true:=(pre_splitW hpre).2
  obtain ⟨d,r,rfl,h1,h2⟩:=hasAllW_cons hsh
  obtain rfl:=hasAllW_nil h2
  obtain ⟨xs,rfl,h3⟩:=hasW_list h1
  obtain ⟨ns,rfl⟩:=items_int h3
  have hlen:ns.length <= n:=by
    unfold OpenLaw.pre at hc
    have h4:(WTm.not (.lt (.lit (.int (n:Int))) (.len (.arg 0)))).holds [] { args:=[.list (ns.map .int)] } = true:=by
      have h4:=(holds_andW hc).1
      rw [hn] at h4
      exact h4
    have h5:=condW_of h4 (w_not (w_lt w_lit (w_len_list (w_arg rfl))))
    rw [List.length_map] at h5
    refine Nat.le_of_not_lt fun q => ?_
    have q':(n:Int) < ((ns.length:Nat):Int):=by omega
    first
      | (rw [decide_eq_true q'] at h5; exact absurd h5 (by decide))
      | (simp at h5; omega)
  cases hwl with
  | cons w1 w2 =>
    cases w2
    cases w1 with
    | list ho hall => exact ⟨_,_,ns,rfl,rfl,ho,ints_of_wellAll ns _ hall,hlen⟩
theorem post_true (l:OpenLaw) (args:List WData):l.row.toRowW.claim.post args (.bool true) args = true :=
  postW_of (r:=l.row.toRowW) (X:=(true == true))
    (show WShape.has [] (.bool true) .bool = true by first | rfl | decide | simp [WShape.has,WShape.arms,WShape.armsAll])
    (show (WTm.eq .res (.lit (.bool true))).value [] { args:=args,res:=some (.bool true),after:=args } = some (.bool (true == true)) from w_eq_bool (w_res rfl) w_lit) rfl
theorem attach_call {l:OpenLaw} {n:Nat} {q:Program} {loose:List Str} {XP:(Str -> Option Value) -> Heap -> Prop} {YP:World -> Heap -> Prop} {d:DefRec}
    (hn:l.most = some n) (hdf:d.params.defaults = [])
    (call:∀ (w:World) (s₀ s₁:Shared) (mg mb:Str -> Option Value) (fa:Addr) (o:Obj) (pm cd doc:Value) (a:Addr) (vs:List Value) (ns:List Int),
      Ground q loose [] XP w s₀ mg mb s₁.heap -> YP w s₁.heap ->
      s₁.heap.get? fa = some o -> o.data = .func (docDef d.name d.params d.body d.scope pm cd doc) -> s₁.heap.CodeRec cd d.name -> mg d.name = some (.ref fa) ->
      s₁.heap.get? a = some { cls:=.type "list",data:=.seq vs.toArray } -> IntsAre vs ns -> ns.length <= n -> s₁.gens = #[] ->
      codeAny (model l.prog w) callerA (.call (.ref fa) ⟨[.ref a],[]⟩) (fun r s' => r = .ok (.ret (.bool true)) /\ OldK s₁.heap s'.heap /\ s'.os = s₁.os /\ AllBare s'.gens) s₁) :
    WalkO q loose XP YP l.row.toRowW d [] (fun f vs => PySem.call f vs):=by
  intro w s₀ s₁ mg mb G Y fa o pm cd doc dV kV ho hd hcd hD hmg hg args vals as hpre hlay hrd hwl hlo
  obtain rfl:dV = .none:=Dflts.none hD hdf
  obtain rfl:kV = .none:=Dflts.noKw hD
  obtain ⟨a,vs,ns,rfl,rfl,hobj,hints,hlen⟩:=script_of hn hpre hwl
  refine enter_call (codeAny_mono (call w s₀ s₁ mg mb fa o pm cd doc a vs ns G Y ho (fd_plain hd) hcd hmg hobj hints hlen hg) fun r s' hq => ?_)
  obtain ⟨rfl,h2,h3,h4⟩:=hq
  exact ⟨.inl ⟨.bool true,.bool true,[],rfl,fun _ => rfl,.bool true,post_true l _,fun _ => ⟨List.Pairwise.nil,fun _ hm => (nomatch hm)⟩⟩,h2,h3,h4⟩
section
variable {prog:Program} {w:World} {A:Around} {E:Value -> Shared -> Prop} {s:Shared} {K:Frag}
end
end Att
namespace L2
open PySem PySem.Spec PyProof.Rows
theorem vals_ints:∀ {vs:List Value} {ns:List Int},IntsAre vs ns -> Vals (ns.map V.int) vs
  | _,_,.nil => .nil
  | _,_,.cons n t h => .cons ⟨t,rfl⟩ (vals_ints h)
noncomputable def Only (H:Hp):Prop:=∀ b,H b = none ∨ ∃ o xs,H b = some (.frz o (.lst xs))
theorem law_call {P:Program} {w:World} {K:PySem.W.Frag} {mg mb:Str -> Option Value} {CX:CXT} {k:Nat} {fa a:Addr} {fd:FuncData} {x:Str} {sp:Sp} {s₁:Shared} {vs:List Value} {ns:List Int}
    (KX:K.In s₁.heap) (hns:s₁.heap.Ns mainGlobals mg) (hb:s₁.heap.Ns builtinsNs mb) (hbb:∀ x:Str,x ≠ "__name__" -> mb x = bootBuiltins x) (hlim:s₁.heap.NoLimit) (hg:s₁.gens = #[])
    (ha:s₁.heap.get? a = some { cls:=.type "list",data:=.seq vs.toArray }) (hi:IntsAre vs ns) (hl:ns.length <= sizeLine) (hr:Room k callerA)
    (F:∀ base:Heap,K.In base -> base.Ns mainGlobals mg -> FnOk P w K mg base CX k fa fd [x] sp) (hbind:∀ (s:Shared) (u:Value),BindsTo s fd ⟨[u],[]⟩ [(x,u)])
    (hsp:∀ H:Hp,Only H -> SqL K H a (ns.map V.int) -> sp [.ref a] H (fun v _ => v = .bl true) fun _ _ _ => False)
    (hCX:∀ H e s',CX [] H s₁ (fun _ _ _ => False) e s' -> False) :
    codeAny (model P w) callerA (.call (.ref fa) ⟨[.ref a],[]⟩) (fun r s' => r = .ok (.ret (.bool true)) /\ OldK s₁.heap s'.heap /\ s'.os = s₁.os /\ AllBare s'.gens) s₁:=by
  have rv:=vals_ints hi
  have lenV:=hi.length
  -- from an abstract heap in which nothing but the script may be tracked
  have core:∀ H:Hp,Only H -> SqL K H a (ns.map V.int) -> HOk P w H s₁.heap -> (∀ b,H b ≠ none -> b = a) -> (H a ≠ none -> K.lookup a = none) ->
      codeAny (model P w) callerA (.call (.ref fa) ⟨[.ref a],[]⟩) (fun r s' => r = .ok (.ret (.bool true)) /\ OldK s₁.heap s'.heap /\ s'.os = s₁.os /\ AllBare s'.gens) s₁:=by
    intro H hO hS hok hA hK
    have base_of:∀ {b:Addr} {o:Obj},s₁.heap.get? b = some o -> H b = none -> (hidT s₁.heap H).get? b = some o:=fun e n => hidT_get e n
    have noA:∀ {b:Addr} {o:Obj} {es:Array DictEntry} {ep:Nat},s₁.heap.get? b = some o -> o.data = .dict es ep -> H b = none:=fun {b o es ep} e d => by
      cases q:H b with
      | none => rfl
      | some u =>
        have e':b = a:=hA b (by rw [q]; simp)
        subst e'
        rw [ha] at e; cases e
        have d':Data.seq vs.toArray _ = Data.dict es ep:=d
        cases d'
    have nsK:∀ {b:Addr} {m:Str -> Option Value},s₁.heap.Ns b m -> (hidT s₁.heap H).Ns b m:=fun {b m} ⟨o,es,ep,e,d,r⟩ => ⟨o,es,ep,base_of e (noA e d),d,r⟩
    have hKb:K.In (hidT s₁.heap H):=fun b o e => base_of (KX b o e) (by
      cases q:H b with
      | none => rfl
      | some u =>
        have e':b = a:=hA b (by rw [q]; simp)
        subst e'
        rw [hK (by rw [q]; simp)] at e; cases e)
    have hM:Mod K mg (hidT s₁.heap H):=⟨hKb,nsK hns,⟨mb,nsK hb,hbb⟩,let ⟨mc,h1,h2⟩:=hlim; ⟨mc,nsK h1,h2⟩⟩
    have e0:Env0 P w K mg (hidT s₁.heap H) callerA [] s₁ H:=⟨rfl,hM,fun b o e => of_hidT e,Nat.le_of_eq (hidT_size _ _),trivial,fun b hb => absurd (show b ∈ ([]:List Addr) from hb) (by simp),hok,.of_eq hg⟩
    refine codeAny_mono ((F _ hKb (nsK hns)).run callerA [] s₁ H ⟨[.ref a],[]⟩ [.ref a] [.ref a] _ _ hr e0 (hbind s₁ (.ref a)) (.cons rfl .nil) (hsp H hO hS)) fun r s' h => ?_
    cases r with
    | error e => exact (hCX H e s' h).elim
    | ok fl =>
      cases fl with
      | next => exact False.elim h
      | brk => exact False.elim h
      | cont => exact False.elim h
      | ret u =>
        obtain ⟨v,H',os,bare,un,hok',r',q⟩:=h
        have q':v = .bl true:=q
        subst q'
        obtain rfl:u = Value.bool true:=r'
        refine ⟨rfl,OldK.of_keep fun b o e => ?_,os,bare⟩
        cases q:H b with
        | none => exact un.keep b o e q (by intro z; exact absurd (show b ∈ ([]:List Addr) from z) (by simp)) (by simp)
        | some u =>
          rcases hO b with z | ⟨ob,xs,z⟩
          . rw [q] at z; cases z
          . have z2:=un.frzs b ob _ z
            obtain ⟨e1,_⟩:=hok b _ z
            obtain ⟨e2,_⟩:=hok' b _ z2
            rw [e] at e1; cases e1
            exact e2
  cases hk:K.lookup a with
  | some o =>
    -- the script is one of the module's own objects
    have e:=KX a o hk
    rw [ha] at e
    cases e
    refine core (fun _ => none) (fun _ => .inl rfl) (.inr ⟨_,vs.toArray,_,hk,rfl,rfl,rfl,by rw [List.size_toArray,lenV]; exact hl,by simpa using rv⟩) (fun b u z => by have z':(none:Option HO) = some u:=z; cases z') (fun b z => absurd rfl z) fun z => absurd rfl z
  | none =>
    refine core (fun b => if b = a then some (.frz { cls:=.type "list",data:=.seq vs.toArray } (.lst (ns.map V.int))) else none) (fun b => ?_) (.inl (.inr ⟨{ cls:=.type "list",data:=.seq vs.toArray },if_pos rfl⟩)) (fun b u z => ?_) (fun b z => ?_) fun _ => hk
    . by_cases hb:b = a
      . exact .inr ⟨_,_,if_pos hb⟩
      . exact .inl (if_neg hb)
    . by_cases hb:b = a
      . have z':=(if_pos hb).symm.trans z
        cases z'
        subst hb
        exact ⟨ha,by rw [List.length_map]; exact hl,vs,_,rv,ha⟩
      . have z':=(if_neg hb).symm.trans z
        cases z'
    . by_cases hb:b = a
      . exact hb
      . exact absurd (if_neg hb) z
end L2
namespace L2
open PySem PySem.Spec PyProof.Rows
theorem walk_of {l:PySem.W.OpenLaw} {n k:Nat} {q:Program} {loose:List Str} {XP:(Str -> Option Value) -> Heap -> Prop} {YP:World -> Heap -> Prop} {d:DefRec} {K:Params -> PySem.W.Frag} {CX:World -> CXT} {sp:World -> Sp} {x:Str}
    (hn:l.most = some n) (hn2:n <= sizeLine) (hdf:d.params.defaults = []) (hr:Room k callerA)
    (hY:∀ (w:World) (h:Heap),YP w h -> (K w.params).In h)
    (F:∀ (w:World) (mg:Str -> Option Value) (fa:Addr) (h:Heap),(K w.params).In h -> h.Ns mainGlobals mg -> mg d.name = some (.ref fa) ->
      ∃ fd:FuncData,(∀ (s:Shared) (u:Value),BindsTo s fd ⟨[u],[]⟩ [(x,u)]) /\
        ∀ base:Heap,(K w.params).In base -> base.Ns mainGlobals mg -> FnOk l.prog w (K w.params) mg base (CX w) k fa fd [x] (sp w))
    (hsp:∀ (w:World) (H:Hp) (a:Addr) (ns:List Int),ns.length <= n -> Only H -> SqL (K w.params) H a (ns.map V.int) -> sp w [.ref a] H (fun v _ => v = .bl true) fun _ _ _ => False)
    (hCX:∀ (w:World) (H:Hp) (s:Shared) (e:Value) (s':Shared),CX w [] H s (fun _ _ _ => False) e s' -> False) :
    PySem.W.WalkO q loose XP YP l.row.toRowW d [] (fun f vs => PySem.call f vs):=by
  refine Att.attach_call hn hdf fun w s₀ s₁ mg mb fa o pm cd doc a vs ns G Y ho hd hcd hmg hobj hints hlen hg => ?_
  have KX:=hY w _ Y
  obtain ⟨fd,hb,hF⟩:=F w mg fa _ KX G.T.g hmg
  exact law_call KX G.T.g G.T.b G.T.builtins G.T.nolimit hg hobj hints (Nat.le_trans hlen hn2) hr hF hb (fun H hO hS => hsp w H a ns hlen hO hS) fun H e s' => hCX w H s₁ e s'
end L2
/- THE LAST THEOREM (shape; LID,My.* are yours):
   My.Adr: a structure of the addresses that your layer names (classes,functions); My.Txt K t: a structure (Prop) of the equations over K;
   My.txt_mk:{K} {implicit addresses ..} (e1:nsIn K mainGlobals "law" = some (some (.ref f))) (e2:K.lookup f = some ⟨oc,od,.func (fnOf "law" "law" params body scope dV kV doc pm an cdv ct),sl⟩) (e3:codeIn K cdv "law" = true) ..:∃ t,My.Txt K t
(the tactic k_is has no namespace: write k_is) -/
namespace L2
open PySem PySem.Spec PyProof.Rows
noncomputable def defArgs (s:Stmt):Arguments:=match s with
  | .FunctionDef _ a _ _ _ _ _ _ _ _ => a
  | _ => { posonlyargs:=[],args:=[],vararg:=none,kwonlyargs:=[],kw_defaults:=[],kwarg:=none,defaults:=[] }
noncomputable def defBody (s:Stmt):List Stmt:=match s with
  | .FunctionDef _ _ b _ _ _ _ _ _ _ => b
  | _ => []
noncomputable def defScope (s:Stmt):Scope:=match s with
  | .FunctionDef _ _ _ _ _ _ sc _ _ _ => sc
  | _ => { kind:=.function,names:=[],isGenerator:=false,isCoroutine:=false }
noncomputable abbrev CX0:CXT:=fun _ _ _ _ _ _ => False
noncomputable abbrev E0:XK:=fun _ _ _ => False
theorem pass0 {X:Cx}:Passes CX0 X E0:=fun _ _ _ _ _ _ _ h => h.elim
structure Fun (K:PySem.W.Frag) (x qual:Str) (st:Stmt) (f:Addr) (fd:FuncData):Prop where
  ex:∃ (oc:Value) (od:Option Addr) (kV doc pm:Value) (an:Option Addr) (cdv ct:Value) (osl:Array (Option Value)),
    fd = PySem.W.fnOf x qual (defArgs st) (defBody st) (defScope st) .none kV doc pm an cdv ct /\ K.lookup f = some ⟨oc,od,.func fd,osl⟩ /\ PySem.W.codeIn K cdv qual = true
  kp:PySem.W.keepIn K (.ref f) = true
section
variable {P:Program} {w:World} {K:PySem.W.Frag} {mg:Str -> Option Value} {base:Heap}
theorem Fun.ok {x qual:Str} {st:Stmt} {f:Addr} {fd:FuncData} {N ps:List Str} {k:Nat} {sp:Sp} (F:Fun K x qual st f fd) (S:FnScope N ps (defScope st)) (len:∀ vs H Q E,sp vs H Q E -> vs.length = ps.length)
    (hbody:∀ (cdv:Value) (A:Around) (outer:List Env) (s:Shared) (H:Hp) (vs:List V) (Q:VK) (E:XK),Room k (A.deeper (envOfC qual (defScope st) s.heap.objs.size f cdv)) -> sp vs H Q E ->
      ∃ t,PSs (cxOf CX0 P w K mg base N qual (defScope st) f cdv A outer s H E).nox (defBody st) t /\ t { nx:=fun _ H' => Q .non H',rt:=Q } (start N vs) H):FnOk P w K mg base CX0 (k + 1) f fd ps sp:=by
  obtain ⟨oc,od,kV,doc,pm,an,cdv,ct,osl,rfl,lk,hcd⟩:=F.ex
  refine fn_of lk hcd S len fun A outer s H vs Q E hr hsp => ?_
  obtain ⟨t,h,q⟩:=hbody cdv A outer s H vs Q E hr hsp
  exact ⟨t,h.nox,q⟩
theorem Fun.binds {x qual:Str} {st:Stmt} {f:Addr} {fd:FuncData} {ps:List Str} (F:Fun K x qual st f fd)
    (h:∀ (kV doc pm:Value) (an:Option Addr) (cdv ct:Value) (us:List Value),us.length = ps.length -> bindArgs (PySem.W.fnOf x qual (defArgs st) (defBody st) (defScope st) .none kV doc pm an cdv ct) ⟨us,[]⟩ = pure (ps.zip us)):Binds K fd ps []:=by
  obtain ⟨oc,od,kV,doc,pm,an,cdv,ct,osl,rfl,lk,hcd⟩:=F.ex
  exact .all (h kV doc pm an cdv ct)
theorem fun_mk {x qual:Str} {st:Stmt} {f:Addr} {oc:Value} {od an:Option Addr} {osl:Array (Option Value)} {kV doc pm cdv ct:Value} (l:K.lookup f = some ⟨oc,od,.func (PySem.W.fnOf x qual (defArgs st) (defBody st) (defScope st) .none kV doc pm an cdv ct),osl⟩)
    (c:PySem.W.codeIn K cdv qual = true) (k:PySem.W.keepIn K (.ref f) = true):Fun K x qual st f (PySem.W.fnOf x qual (defArgs st) (defBody st) (defScope st) .none kV doc pm an cdv ct):=⟨⟨oc,od,kV,doc,pm,an,cdv,ct,osl,rfl,l,c⟩,k⟩
end
theorem small1000 {n:Nat} (h:n <= 1000):n < sizeLine:=Nat.lt_of_le_of_lt h (by decide)
section
variable {X:Cx}
theorem pv (i:Nat) {x:Str} {pos:Pos} (hN:X.N[i]? = some x:=by rfl) (hv:Vis X.env.scope x:=by first | exact Or.inl rfl | exact Or.inr (Or.inl rfl) | exact Or.inr (Or.inr rfl)) (hd:(x == ("__debug__":Str)) = false:=by decide)
    (hcd:(x == ("__classdict__":Str)) = false:=by decide):PE X (.Name x pos) (tVar i):=pe_var hN hv hd hcd
end
theorem iteF {A B:Prop} (h:B):if false = true then A else B:=by
  rw [if_neg Bool.false_ne_true]
  exact h
theorem iteT {A B:Prop} (h:A):if true = true then A else B:=by
  rw [if_pos rfl]
  exact h
noncomputable def Same (H H':Hp):Prop:=∀ b o,H b = some o -> H' b = some o
theorem Same.refl (H:Hp):Same H H:=fun _ _ h => h
theorem Same.trans {H H1 H2:Hp} (a:Same H H1) (b:Same H1 H2):Same H H2:=fun c o h => b c o (a c o h)
theorem Same.free {H H':Hp} (e:Same H H') {l:Addr} (h:H' l = Option.none):H l = Option.none:=by
  cases q:H l with
  | none => rfl
  | some o =>
    rw [e l o q] at h
    cases h
theorem Same.seq {K:PySem.W.Frag} {H H':Hp} {a:Addr} {xs:List V} (e:Same H H') (h:SqL K H a xs):SqL K H' a xs:=by
  rcases h with (h | ⟨o,h⟩) | h
  . exact .inl (.inl (e _ _ h))
  . exact .inl (.inr ⟨o,e _ _ h⟩)
  . exact .inr h
end L2
namespace L2
open PySem PySem.Spec PyProof.Rows
section
variable {κ:Type} [DecidableEq κ]
noncomputable def valV (kvs:List (κ×V)) (k:κ):Option V:=(kvs.find? fun kv => decide (kv.1 = k)).map (·.2)
noncomputable def putK (kvs:List (κ×V)) (k:κ) (v:V):List (κ×V) :=
  if (kvs.any fun kv => decide (kv.1 = k)) = true then kvs.map (fun kv => if kv.1 = k then (kv.1,v) else kv) else kvs ++ [(k,v)]
noncomputable def dropK (kvs:List (κ×V)) (k:κ):List (κ×V):=kvs.filter fun kv => decide (kv.1 ≠ k)
theorem valV_nil {k:κ}:valV ([]:List (κ×V)) k = none:=rfl
theorem valV_pos {p:κ×V} {r:List (κ×V)} {k:κ} (e:p.1 = k):valV (p :: r) k = some p.2:=by simp [valV,List.find?_cons,e]
theorem valV_neg {p:κ×V} {r:List (κ×V)} {k:κ} (e:¬ p.1 = k):valV (p :: r) k = valV r k:=by simp [valV,List.find?_cons,e]
theorem valV_any (k:κ):∀ kvs:List (κ×V),(kvs.any fun kv => decide (kv.1 = k)) = (valV kvs k).isSome
  | [] => rfl
  | p :: r => by
    rw [List.any_cons]
    by_cases e:p.1 = k
    . simp only [valV_pos e,decide_eq_true e,Bool.true_or,Option.isSome_some]
    . rw [valV_neg e,decide_eq_false e,Bool.false_or]; exact valV_any k r
theorem valV_map (k j:κ) (y:V):∀ kvs:List (κ×V),valV (kvs.map fun kv => if kv.1 = k then (kv.1,y) else kv) j = (valV kvs j).map fun x => if j = k then y else x
  | [] => rfl
  | p :: r => by
    have ih:=valV_map k j y r
    rw [List.map_cons]
    by_cases h:p.1 = k
    . rw [if_pos h]
      by_cases e:p.1 = j
      . rw [valV_pos (p:=(p.1,y)) e,valV_pos e,Option.map_some,if_pos (e.symm.trans h)]
      . rw [valV_neg (p:=(p.1,y)) e,valV_neg e,ih]
    . rw [if_neg h]
      by_cases e:p.1 = j
      . rw [valV_pos (p:=p) e,valV_pos e,Option.map_some,if_neg (fun z => h (e.trans z))]
      . rw [valV_neg (p:=p) e,valV_neg e,ih]
theorem valV_snoc (k j:κ) (y:V):∀ kvs:List (κ×V),valV kvs k = none -> valV (kvs ++ [(k,y)]) j = if j = k then some y else valV kvs j
  | [],_ => by
    by_cases e:k = j
    . rw [if_pos e.symm]; exact valV_pos (p:=(k,y)) e
    . rw [if_neg (fun z => e z.symm)]; exact valV_neg (p:=(k,y)) e
  | p :: r,hn => by
    rw [List.cons_append]
    have hk:¬ p.1 = k:=fun z => by rw [valV_pos z] at hn; cases hn
    rw [valV_neg hk] at hn
    have ih:=valV_snoc k j y r hn
    by_cases e:p.1 = j
    . rw [valV_pos e,valV_pos e,if_neg (fun z => hk (e.trans z))]
    . rw [valV_neg e,valV_neg e,ih]
theorem valV_put (kvs:List (κ×V)) (k j:κ) (y:V):valV (putK kvs k y) j = if j = k then some y else valV kvs j:=by
  unfold putK
  by_cases a:(kvs.any fun kv => decide (kv.1 = k)) = true
  . rw [if_pos a,valV_map]
    rw [valV_any] at a
    by_cases e:j = k
    . obtain ⟨x,hx⟩:=Option.isSome_iff_exists.mp a
      rw [if_pos e,e,hx,Option.map_some,if_pos rfl]
    . rw [if_neg e]
      cases valV kvs j with
      | none => rfl
      | some x => rw [Option.map_some,if_neg e]
  . rw [if_neg a]
    refine valV_snoc k j y kvs ?_
    rw [valV_any] at a
    cases q:valV kvs k with
    | none => rfl
    | some x => rw [q] at a; exact (a rfl).elim
theorem length_putK (kvs:List (κ×V)) (k:κ) (v:V):(putK kvs k v).length <= kvs.length + 1:=by
  unfold putK
  split
  . rw [List.length_map]; omega
  . rw [List.length_append,List.length_cons,List.length_nil]; omega
theorem RelO.getD {o:Option V} {u:Option Value} {d:V} {d':Value} (r:RelO o u) (rd:RelV d d'):RelV (o.getD d) (u.getD d'):=by
  cases o with
  | none => cases u with
    | none => exact rd
    | some _ => exact (show False from r).elim
  | some _ => cases u with
    | none => exact (show False from r).elim
    | some _ => exact r
theorem KV.any {kvs:List (κ×V)} {vs:List (κ×Value)} (r:KV kvs vs) (k:κ):(kvs.any fun kv => decide (kv.1 = k)) = vs.any fun kv => decide (kv.1 = k):=by
  unfold KV at r
  induction r with
  | nil => rfl
  | cons h t ih => rw [List.any_cons,List.any_cons,ih,h.1]
theorem KV.drop {kvs:List (κ×V)} {vs:List (κ×Value)} (r:KV kvs vs) (k:κ):KV (dropK kvs k) (without vs k):=by
  unfold KV at r ⊢
  unfold dropK without
  induction r with
  | nil => exact .nil
  | @cons p q ps qs h t ih =>
    obtain ⟨h1,h2⟩:=h
    rw [List.filter_cons,List.filter_cons]
    by_cases e:p.1 = k
    . have a:¬ decide (p.1 ≠ k) = true:=by simp [e]
      have b:¬ decide (q.1 ≠ k) = true:=by simp [h1.symm.trans e]
      rw [if_neg a,if_neg b]; exact ih
    . have e':¬ q.1 = k:=fun z => e (h1.trans z)
      have a:decide (p.1 ≠ k) = true:=by simp [e]
      have b:decide (q.1 ≠ k) = true:=by simp [e']
      rw [if_pos a,if_pos b]; exact .cons ⟨h1,h2⟩ ih
theorem KV.length {kvs:List (κ×V)} {vs:List (κ×Value)} (r:KV kvs vs):kvs.length = vs.length:=Paired.length r
end
noncomputable abbrev KT (H:Hp):List (List Key×V) -> List (List Key×Addr×Value) -> Prop:=Paired fun p q => p.1 = q.1 /\ H q.2.1 = some (.tup (p.1.map kV)) /\ RelV p.2 q.2.2
theorem KT.keeps {H H':Hp} {kvs:List (List Key×V)} {xs:List (List Key×Addr×Value)} (r:KT H kvs xs) (ht:∀ b ys,H b = some (.tup ys) -> H' b = some (.tup ys)):KT H' kvs xs :=
  Paired.mapP r fun _ _ z => ⟨z.1,ht _ _ z.2.1,z.2.2⟩
section
variable {P:Program} {w:World} {H:Hp} {h:Heap} {a:Addr}
end
noncomputable def DGet (H:Hp) (a:Addr) (y:V) (r:Option V):Prop :=
  (∃ kvs k,Rd H a (.dK kvs) /\ y = kV k /\ r = valV kvs k) ∨ ∃ kvs k b,Rd H a (.dT kvs) /\ y = .ref b /\ H b = some (.tup (k.map kV)) /\ r = valV kvs k
noncomputable def DPut (H:Hp) (a:Addr) (y v:V) (H':Hp):Prop :=
  (∃ kvs k,H a = some (.dK kvs) /\ y = kV k /\ kvs.length < sizeLine /\ H' = upd H a (.dK (putK kvs k v))) ∨
  ∃ kvs k b,H a = some (.dT kvs) /\ y = .ref b /\ H b = some (.tup (k.map kV)) /\ kvs.length < sizeLine /\ H' = upd H a (.dT (putK kvs k v))
theorem DGet.k {H:Hp} {a:Addr} {kvs:List (Key×V)} {k:Key} (e:H a = some (.dK kvs)):DGet H a (kV k) (valV kvs k):=.inl ⟨kvs,k,.inl e,rfl,rfl⟩
theorem DGet.t {H:Hp} {a b:Addr} {kvs:List (List Key×V)} {k:List Key} (e:H a = some (.dT kvs)) (eb:H b = some (.tup (k.map kV))):DGet H a (.ref b) (valV kvs k):=.inr ⟨kvs,k,b,.inl e,rfl,eb,rfl⟩
theorem DPut.k {H:Hp} {a:Addr} {kvs:List (Key×V)} {k:Key} {v:V} (e:H a = some (.dK kvs)) (hl:kvs.length < sizeLine):DPut H a (kV k) v (upd H a (.dK (putK kvs k v))):=.inl ⟨kvs,k,e,rfl,hl,rfl⟩
theorem DPut.t {H:Hp} {a b:Addr} {kvs:List (List Key×V)} {k:List Key} {v:V} (e:H a = some (.dT kvs)) (eb:H b = some (.tup (k.map kV))) (hl:kvs.length < sizeLine) :
    DPut H a (.ref b) v (upd H a (.dT (putK kvs k v))):=.inr ⟨kvs,k,b,e,rfl,eb,hl,rfl⟩
section
variable {X:Cx} {pins:List (Addr×Obj)} {σ:St} {H:Hp} {s:Shared} {a:Addr} {y v:V} {u r:Value} {o:Option V} {A:Around} {E:Value -> Shared -> Prop}
theorem Inv.big (I:Inv X pins σ H s):sysModules < s.heap.objs.size:=by
  have h:mainGlobals < s.heap.objs.size:=(I.mod.glob.keeps I.bk).lt
  exact Nat.lt_trans (by decide) h
end
section
variable {X:Cx} {pins:List (Addr×Obj)} {σ:St} {H:Hp} {s:Shared} {a:Addr} {kvs:List (Key×V)} {k:Key} {u:Value} {A:Around} {E:Value -> Shared -> Prop}
end
noncomputable def tDGet (td ty:TE):TE:=fun σ H Q => td σ H fun x H1 => ty σ H1 fun y H2 => ∃ a v,x = .ref a /\ DGet H2 a y (some v) /\ Q v H2
noncomputable def tDIn (ty td:TE):TE:=fun σ H Q => ty σ H fun y H1 => td σ H1 fun x H2 => ∃ a o,x = .ref a /\ DGet H2 a y o /\ Q (.bl o.isSome) H2
noncomputable def tDNotIn (ty td:TE):TE:=fun σ H Q => ty σ H fun y H1 => td σ H1 fun x H2 => ∃ a o,x = .ref a /\ DGet H2 a y o /\ Q (.bl (!o.isSome)) H2
noncomputable def sDPut (td ty tv:TE):TS:=fun D σ H => tv σ H fun v H1 => td σ H1 fun x H2 => ty σ H2 fun y H3 => ∃ a H4,x = .ref a /\ DPut H3 a y v H4 /\ D.nx σ H4
section
variable {X:Cx} {o i e value:Expr} {pos pos' tpos:Pos} {td ty tv:TE}
end
theorem dk_empty {P:Program} {w:World} {H:Hp} (h:Heap) (hb:sysModules < h.objs.size):ObjOk P w H (h.push { cls:=.type "dict",data:=.dict #[] }) h.objs.size (.dK []) :=
  ⟨Nat.zero_le _,beq_eq_false_iff_ne.mpr (Ne.symm (Nat.ne_of_lt hb)),[],.nil,Heap.DictOf.new h⟩
noncomputable def tDNewK:TE:=fun _ H Q => ∀ p,H p = none -> Q (.ref p) (upd H p (.dK []))
section
variable {X:Cx} {pos:Pos}
theorem pe_dnewK:PE X (.Dict [] [] pos) tDNewK:=fun pins s σ H Q I h =>
  wpAny_Dict_empty ⟨.ref s.heap.objs.size,_,I.laid (a:=s.heap.objs.size) (o:=.dK []) (t':=s.toks) (fun _ _ q => Heap.get?_push_of_some _ q) (Nat.le_refl _) (dk_empty s.heap I.big),rfl,h _ (I.hok.fresh (Nat.le_refl _))⟩
end
noncomputable def IsD (H:Hp) (a:Addr):Prop:=(∃ kvs,Rd H a (.dK kvs)) ∨ ∃ kvs,Rd H a (.dT kvs)
section
variable {X:Cx} {pins:List (Addr×Obj)} {σ:St} {H:Hp} {s:Shared} {a:Addr} {y d:V} {u r:Value} {o:Option V} {A:Around} {E:Value -> Shared -> Prop}
end
noncomputable def tDGet1 (td ty:TE):TE:=fun σ H Q => td σ H fun x H1 => ∃ a,x = .ref a /\ IsD H1 a /\ ty σ H1 fun y H2 => ∃ o,DGet H2 a y o /\ Q (o.getD .non) H2
noncomputable def tDGet2 (td ty tx:TE):TE:=fun σ H Q => td σ H fun x H1 => ∃ a,x = .ref a /\ IsD H1 a /\ ty σ H1 fun y H2 => tx σ H2 fun z H3 => ∃ o,DGet H3 a y o /\ Q (o.getD z) H3
noncomputable def tDPop1 (td ty:TE):TE:=fun σ H Q => td σ H fun x H1 => ∃ a,x = .ref a /\ IsD H1 a /\ ty σ H1 fun y H2 => ∃ kvs k v,H2 a = some (.dK kvs) /\ y = kV k /\ valV kvs k = some v /\ Q v (upd H2 a (.dK (dropK kvs k)))
section
variable {X:Cx} {o e f:Expr} {apos cpos:Pos} {td ty tx:TE}
end
section
variable {X:Cx} {pins:List (Addr×Obj)} {σ:St} {H:Hp} {s:Shared} {a:Addr} {kvs:List (Key×V)} {A:Around} {E:Value -> Shared -> Prop}
end
section
variable {X:Cx} {pins:List (Addr×Obj)} {σ:St} {H:Hp} {s:Shared} {a:Addr} {y:V} {u:Value} {A:Around} {E:Value -> Shared -> Prop}
end
end L2
namespace L2
open PySem PySem.Spec PyProof.Rows
section
variable {κ:Type} [DecidableEq κ]
theorem dropK_pos {p:κ×V} {r:List (κ×V)} {k:κ} (e:p.1 = k):dropK (p :: r) k = dropK r k:=by
  unfold dropK
  rw [List.filter_cons,if_neg (by simp [e])]
theorem dropK_neg {p:κ×V} {r:List (κ×V)} {k:κ} (e:¬ p.1 = k):dropK (p :: r) k = p :: dropK r k:=by
  unfold dropK
  rw [List.filter_cons,if_pos (by simp [e])]
end
end L2
namespace L2
open PySem PySem.Spec PyProof.Rows
noncomputable def Sm (n:Nat) (x:Int):Prop:=x.natAbs < 2 ^ n
theorem Sm.mono {m n:Nat} {x:Int} (h:Sm m x) (l:m <= n):Sm n x:=Nat.lt_of_lt_of_le h (Nat.pow_le_pow_right (by decide) l)
theorem Sm.bits {n:Nat} {x:Int} (h:Sm n x):Builtin.Int.intBits x <= n:=by
  unfold Builtin.Int.intBits
  split
  . exact Nat.zero_le _
  . have hn:x.natAbs < 2 ^ n:=h
    rename_i hx
    have h0 : x.natAbs ≠ 0 := fun e => hx (by have : x = 0 := by omega
                                              rw [this]; rfl)
    have:x.natAbs.log2 < n:=(Nat.log2_lt h0).mpr hn
    omega
theorem Sm.mulOk {a b:Int} {m n:Nat} (ha:Sm m a) (hb:Sm n b) (h:m + n <= 134217728):IntMulOk a b:=PyProof.Rows.mulOk_of_bits ha.bits hb.bits h
theorem Sm.log2 {n:Nat} {x:Int} (h:Sm n x):x.natAbs.log2 < n + 1:=by
  have hn:x.natAbs < 2 ^ n:=h
  by_cases h0:x.natAbs = 0
  . rw [h0,Nat.log2_zero]; omega
  . have:=(Nat.log2_lt h0).mpr hn
    omega
theorem Sm.of {n:Nat} {x:Int} (h1:-(2 ^ n:Nat) < x) (h2:x < (2 ^ n:Nat)):Sm n x:=by
  unfold Sm
  generalize 2 ^ n = k at *
  omega
theorem Sm.add {a b:Int} {n:Nat} (ha:Sm n a) (hb:Sm n b):Sm (n + 1) (a + b):=by
  unfold Sm at *
  rw [Nat.pow_succ]
  have:=Int.natAbs_add_le a b
  omega
theorem Sm.sub {a b:Int} {n:Nat} (ha:Sm n a) (hb:Sm n b):Sm (n + 1) (a - b):=by
  unfold Sm at *
  rw [Nat.pow_succ]
  omega
theorem Sm.neg {a:Int} {n:Nat} (ha:Sm n a):Sm n (-a):=by
  unfold Sm at *
  rw [Int.natAbs_neg]; exact ha
theorem Sm.le {a b:Int} {n:Nat} (h:a.natAbs <= b.natAbs) (hb:Sm n b):Sm n a:=Nat.lt_of_le_of_lt h hb
section
variable {X:Cx}
noncomputable def CDivB (_ j:Int):Prop:=j ≠ 0 /\ Sm 8000 j
theorem op_fdivB:OpR X (binaryOp .FloorDiv) (rI CDivB fun i j => .int (i.fdiv j)):=opI fun _ _ _ _ _ _ _ hc q => floordiv_int hc.1 q (.inl (PyProof.noPylong_of_log2 (Nat.lt_trans hc.2.log2 (by decide))))
noncomputable def CMulB (i j:Int):Prop:=CMul i j ∨ (Sm 60000000 i /\ Sm 60000000 j)
theorem CMulB.ok {i j:Int} (h:CMulB i j):IntMulOk i j:=by
  rcases h with h | ⟨h1,h2⟩
  . exact h.ok
  . exact h1.mulOk h2 (by decide)
theorem CMulB.l {i j:Int} (h1:-(2 ^ 64) < i) (h2:i < 2 ^ 64):CMulB i j:=.inl (.inl ⟨h1,h2⟩)
theorem CMulB.r {i j:Int} (h1:-(2 ^ 64) < j) (h2:j < 2 ^ 64):CMulB i j:=.inl (.inr ⟨h1,h2⟩)
theorem CMulB.s {i j:Int} {m n:Nat} (h1:Sm m i) (h2:Sm n j) (hm:m <= 60000000) (hn:n <= 60000000):CMulB i j:=.inr ⟨h1.mono hm,h2.mono hn⟩
theorem op_mulB:OpR X (binaryOp .Mult) (rI CMulB fun i j => .int (i * j)):=opI fun _ _ _ _ _ _ _ hc q => mul_int q hc.ok
noncomputable def rIsB:R2:=fun x y H Q => ∃ b c,x = .bl b /\ y = .bl c /\ Q (.bl (b == c)) H
noncomputable def rIsNB:R2:=fun x y H Q => ∃ b c,x = .bl b /\ y = .bl c /\ Q (.bl (b != c)) H
noncomputable def rIsTy (K:PySem.W.Frag) (T:String):List V -> Hp -> VK -> Prop:=fun xs H Q => ∃ x t b,xs = [x,.ty T] /\ TyOf K H x t /\ PySem.W.kitOne K t (.type T) = some b /\ Q (.bl b) H
theorem call_isTy {T:String}:CallR X (.builtin "isinstance") (rIsTy X.K T):=by
  intro pins s σ H xs us Q I r h
  obtain ⟨x,t,b,rfl,ty,e,q⟩:=h
  obtain ⟨u,v,rfl,ru,rv⟩:=Vals.two r
  obtain rfl:v = Value.type T:=rv
  exact isinst_ok I ru ty e fun tk => ⟨.bl b,H,I.tok tk,rfl,q⟩
end
section
variable {σ:St} {H H':Hp} {Q:VK} {D:Ends} {t u:TS} {te ta tb:TE} {v w x:V} {i j:Int} {b c:Bool} {X:Cx} {K:PySem.W.Frag}
theorem r_var {n:Nat} (h:σ[n]? = some (some v)) (k:Q v H):tVar n σ H Q:=⟨v,h,k⟩
theorem r_c (k:Q v H):tC v σ H Q:=k
theorem r_seq (k:t ⟨u D,D.rt,D.bk,D.ct⟩ σ H):tSeq t u D σ H:=k
theorem r_nx {n r b' c'} (k:n σ H):Ends.nx ⟨n,r,b',c'⟩ σ H:=k
theorem r_rt {n r b' c'} (k:r v H):Ends.rt ⟨n,r,b',c'⟩ v H:=k
theorem r_bk {n r b' c'} (k:b' σ H):Ends.bk ⟨n,r,b',c'⟩ σ H:=k
theorem r_ct {n r b' c'} (k:c' σ H):Ends.ct ⟨n,r,b',c'⟩ σ H:=k
theorem r_next (k:D.nx σ H):tNext D σ H:=k
theorem r_break (k:D.bk σ H):tBreak D σ H:=k
theorem r_cont (k:D.ct σ H):tCont D σ H:=k
theorem r_asg {g:TG} (k:te σ H fun x H1 => g x σ H1 D.nx):tAsg te g D σ H:=k
theorem r_gname {n:Nat} {R:St -> Hp -> Prop} (k:R (σ.set n (some v)) H):gName n v σ H R:=k
theorem r_op {r:R2} (k:ta σ H fun x H1 => tb σ H1 fun y H2 => r x y H2 Q):tOp r ta tb σ H Q:=k
theorem r_un {r} (k:ta σ H fun x H1 => r x H1 Q):tUn r ta σ H Q:=k
theorem r_I0 {g} (k:Q (g i j) H):rI0 g (.int i) (.int j) H Q:=⟨i,j,rfl,rfl,k⟩
theorem r_I {C g} (c:C i j) (k:Q (g i j) H):rI C g (.int i) (.int j) H Q:=⟨i,j,rfl,rfl,c,k⟩
theorem r_U {g} (k:Q (g i) H):rU g (.int i) H Q:=⟨i,rfl,k⟩
noncomputable def bK (R:Bool -> Hp -> Prop):VK:=fun x H => ∃ k,x = .bl k /\ R k H
theorem r_bK {R:Bool -> Hp -> Prop} (k:R b H):bK R (.bl b) H:=⟨b,rfl,k⟩
theorem r_test {R:Bool -> Hp -> Prop} (k:te σ H (bK R)):tTest te σ H R:=k
theorem r_tB {R:Bool -> Hp -> Prop} (k:te σ H (bK R)):tB te σ H R:=k
theorem r_ifS {tc:TT} (k:tc σ H fun b H1 => if b = true then t D σ H1 else u D σ H1):tIfS tc t u D σ H:=k
theorem r_if {tc:TT} (k:tc σ H fun b H1 => if b = true then ta σ H1 Q else tb σ H1 Q):tIf tc ta tb σ H Q:=k
theorem r_and {ca cb:TT} {R:Bool -> Hp -> Prop} (k:ca σ H fun c H1 => if c = true then cb σ H1 R else R false H1):tAnd ca cb σ H R:=k
theorem r_or {ca cb:TT} {R:Bool -> Hp -> Prop} (k:ca σ H fun c H1 => if c = true then R true H1 else cb σ H1 R):tOr ca cb σ H R:=k
theorem r_not {ca:TT} {R:Bool -> Hp -> Prop} (k:ca σ H fun c H1 => R (!c) H1):tNot ca σ H R:=k
noncomputable def andK (tb:TE) (σ:St) (Q:VK):VK:=fun x H1 => ∃ c,x = .bl c /\ if c = true then tb σ H1 Q else Q (.bl false) H1
noncomputable def orK (tb:TE) (σ:St) (Q:VK):VK:=fun x H1 => ∃ c,x = .bl c /\ if c = true then Q (.bl true) H1 else tb σ H1 Q
noncomputable def notK (Q:VK):VK:=fun x H1 => ∃ c,x = .bl c /\ Q (.bl (!c)) H1
theorem r_andV (k:ta σ H (andK tb σ Q)):tAndV ta tb σ H Q:=k
theorem r_orV (k:ta σ H (orK tb σ Q)):tOrV ta tb σ H Q:=k
theorem r_notV (k:ta σ H (notK Q)):tNotV ta σ H Q:=k
theorem r_andK (k:if c = true then tb σ H Q else Q (.bl false) H):andK tb σ Q (.bl c) H:=⟨c,rfl,k⟩
theorem r_orK (k:if c = true then Q (.bl true) H else tb σ H Q):orK tb σ Q (.bl c) H:=⟨c,rfl,k⟩
theorem r_notK (k:Q (.bl (!c)) H):notK Q (.bl c) H:=⟨c,rfl,k⟩
theorem r_ret (k:te σ H D.rt):tRet te D σ H:=k
theorem r_retN (k:D.rt .non H):tRetN D σ H:=k
theorem r_drop (k:te σ H fun _ H1 => D.nx σ H1):tDrop te D σ H:=k
theorem r_nil {R:List V -> Hp -> Prop} (k:R [] H):tNil σ H R:=k
theorem r_cons {tr:TA} {R:List V -> Hp -> Prop} (k:ta σ H fun x H1 => tr σ H1 fun xs H2 => R (x :: xs) H2):tCons ta tr σ H R:=k
noncomputable def tupK (Q:VK):List V -> Hp -> Prop:=fun xs H1 => xs.length <= sizeLine /\ ∀ p,H1 p = none -> Q (.ref p) (upd H1 p (.tup xs))
noncomputable def lstK (Q:VK):List V -> Hp -> Prop:=fun xs H1 => xs.length <= sizeLine /\ ∀ p,H1 p = none -> Q (.ref p) (upd H1 p (.lst xs))
theorem le_line {n:Nat} (h:n <= 1000):n <= sizeLine:=Nat.le_of_lt (small1000 h)
theorem r_tup {tr:TA} (k:tr σ H (tupK Q)):tTup tr σ H Q:=k
theorem r_lst {tr:TA} (k:tr σ H (lstK Q)):tLst tr σ H Q:=k
theorem r_tupK {xs:List V} (k:∀ p,H p = none -> Q (.ref p) (upd H p (.tup xs))) (h:xs.length <= 1000:=by exact Nat.le_of_ble_eq_true rfl):tupK Q xs H:=⟨le_line h,k⟩
theorem r_lstK {xs:List V} (k:∀ p,H p = none -> Q (.ref p) (upd H p (.lst xs))) (h:xs.length <= 1000:=by exact Nat.le_of_ble_eq_true rfl):lstK Q xs H:=⟨le_line h,k⟩
theorem r_call {sp:Sp} {E:XK} {tr:TA} (k:tr σ H fun vs H1 => sp vs H1 Q E):tCall sp [] E tr σ H Q:=by
  show tr σ H fun vs H1 => sp (vs ++ []) H1 Q E
  have e:(fun (vs:List V) H1 => sp (vs ++ []) H1 Q E) = fun vs H1 => sp vs H1 Q E:=by
    funext vs H1
    rw [List.append_nil]
  rw [e]; exact k
theorem r_CB {r} {tr:TA} (k:tr σ H fun vs H1 => r vs H1 Q):tCB r tr σ H Q:=k
theorem r_par {n m:Nat} {ta:TA} (k:ta σ H fun vs H1 => ∃ v w,vs = [v,w] /\ D.nx ((σ.set n (some v)).set m (some w)) H1):tPar n m ta D σ H:=k
theorem r_eqI (k:Q (.bl (decide (i = j))) H):rEq (.int i) (.int j) H Q:=⟨rfl,by rw [dec_int,Bool.beq_eq_decide_eq]; exact k⟩
theorem r_neI (k:Q (.bl (!decide (i = j))) H):rNe (.int i) (.int j) H Q:=⟨rfl,by rw [dec_int,Bool.beq_eq_decide_eq]; exact k⟩
theorem r_eqB (k:Q (.bl (b == c)) H):rEq (.bl b) (.bl c) H Q:=⟨rfl,by rw [dec_bl]; exact k⟩
theorem r_neB (k:Q (.bl (!(b == c))) H):rNe (.bl b) (.bl c) H Q:=⟨rfl,by rw [dec_bl]; exact k⟩
theorem r_isB (k:Q (.bl (b == c)) H):rIsB (.bl b) (.bl c) H Q:=⟨b,c,rfl,rfl,k⟩
theorem r_isNB (k:Q (.bl (b != c)) H):rIsNB (.bl b) (.bl c) H Q:=⟨b,c,rfl,rfl,k⟩
theorem r_ixL {p:Addr} {xs:List V} (h:SqL K H p xs) (e:atI xs i = some v) (k:Q v H):rIxL K (.ref p) (.int i) H Q:=⟨p,xs,i,v,rfl,rfl,h,e,k⟩
theorem r_ixT {p:Addr} {xs:List V} (h:SqT K H p xs) (e:atI xs i = some v) (k:Q v H):rIxT K (.ref p) (.int i) H Q:=⟨p,xs,i,v,rfl,rfl,h,e,k⟩
noncomputable def rIxLT (K:PySem.W.Frag):R2:=fun x y H Q => rIxL K x y H Q ∨ rIxT K x y H Q ∨ rIxS x y H Q
theorem ix_LT:IxR X (rIxLT X.K):=ix_seq
theorem r_ixl {p:Addr} {xs:List V} (h:H p = some (.lst xs)) (e:atI xs i = some v) (k:Q v H):rIxLT K (.ref p) (.int i) H Q:=.inl (r_ixL (SqL.of h) e k)
theorem r_ixt {p:Addr} {xs:List V} (h:H p = some (.tup xs)) (e:atI xs i = some v) (k:Q v H):rIxLT K (.ref p) (.int i) H Q:=.inr (.inl (r_ixT (SqT.of h) e k))
theorem i_T {A B:Prop} (h:A):if true = true then A else B:=iteT h
theorem i_F {A B:Prop} (h:B):if false = true then A else B:=iteF h
theorem i_dT {p A B:Prop} [Decidable p] (hp:p) (h:A):if decide p = true then A else B:=by rw [decide_eq_true hp]; exact iteT h
theorem i_dF {p A B:Prop} [Decidable p] (hp:¬ p) (h:B):if decide p = true then A else B:=by rw [decide_eq_false hp]; exact iteF h
theorem i_d {p A B:Prop} [Decidable p] (h1:p -> A) (h2:¬ p -> B):if decide p = true then A else B:=by
  by_cases h:p
  . exact i_dT h (h1 h)
  . exact i_dF h (h2 h)
theorem i_flip {A B:Prop} (h:if b = true then B else A):if (!b) = true then A else B:=by cases b <;> exact h
theorem i_bT {A B:Prop} (hb:b = true) (h:A):if b = true then A else B:=by rw [hb]; exact i_T h
theorem i_bF {A B:Prop} (hb:b = false) (h:B):if b = true then A else B:=by rw [hb]; exact i_F h
end
noncomputable def Kp (p:Addr) (H H':Hp):Prop:=∀ b o,b ≠ p -> H b = some o -> H' b = some o
theorem Kp.refl (p:Addr) (H:Hp):Kp p H H:=fun _ _ _ h => h
theorem Kp.trans {p:Addr} {H H1 H2:Hp} (a:Kp p H H1) (b:Kp p H1 H2):Kp p H H2:=fun c o n h => b c o n (a c o n h)
theorem Kp.upd {p:Addr} {H:Hp} {o:HO}:Kp p H (upd H p o):=fun c u n h => by rw [upd_ne n]; exact h
theorem Kp.new {p q:Addr} {H:Hp} {o:HO} (hq:H q = none):Kp p H (L2.upd H q o):=fun c u n h => by rw [upd_ne (ne_of_none h hq)]; exact h
theorem Same.new {q:Addr} {H:Hp} {o:HO} (hq:H q = none):Same H (upd H q o):=fun c u h => by rw [upd_ne (ne_of_none h hq)]; exact h
theorem Same.kp {p:Addr} {H H':Hp} (s:Same H H'):Kp p H H':=fun c o _ h => s c o h
theorem Kp.tup {p q:Addr} {H H':Hp} {xs ys:List V} (k:Kp p H H') (hp:H p = some (.lst ys)) (hq:H q = some (.tup xs)):H' q = some (.tup xs) :=
  k q _ (ne_of hq hp (by intro z; cases z)) hq
theorem Kp.seq {K:PySem.W.Frag} {p a:Addr} {H H':Hp} {xs:List V} (e:Kp p H H') (n:a ≠ p) (h:SqL K H a xs):SqL K H' a xs:=by
  rcases h with (h | ⟨o,h⟩) | h
  . exact .inl (.inl (e _ _ n h))
  . exact .inl (.inr ⟨o,e _ _ n h⟩)
  . exact .inr h
theorem Same.kpn {p:Addr} {H H2 H3:Hp} (h:H p = none) (a:Same H H2) (k:Kp p H2 H3):Same H H3:=fun c o e => k c o (ne_of_none e h) (a c o e)
noncomputable def Fr2 (H:Hp) (v:V) (a b:Int):Prop:=∃ q,v = .ref q /\ H q = some (.tup [.int a,.int b])
theorem Fr2.same {H H':Hp} {v:V} {a b:Int} (h:Fr2 H v a b) (s:Same H H'):Fr2 H' v a b:=let ⟨q,e,h⟩:=h; ⟨q,e,s _ _ h⟩
noncomputable def St3 (H:Hp) (p:Addr) (n:Int):Prop:=∃ a b c:Int,H p = some (.lst [.int a,.int b,.int c]) /\ 0 <= a /\ 0 <= b /\ b <= n
theorem St3.mono {H:Hp} {p:Addr} {m n:Int} (h:St3 H p m) (l:m <= n):St3 H p n:=let ⟨a,b,c,h,x,y,z⟩:=h; ⟨a,b,c,h,x,y,Int.le_trans z l⟩
theorem St3.ne {H:Hp} {p q:Addr} {n:Int} {xs:List V} (h:St3 H p n) (hq:H q = some (.tup xs)):q ≠ p:=let ⟨_,_,_,h,_⟩:=h; ne_of hq h (by intro z; cases z)
theorem Fr2.kp {H H':Hp} {p:Addr} {v:V} {a b n:Int} (h:Fr2 H v a b) (s:St3 H p n) (k:Kp p H H'):Fr2 H' v a b :=
  let ⟨q,e,h⟩:=h; ⟨q,e,k _ _ (s.ne h) h⟩
theorem St3.new {H:Hp} {p q:Addr} {n:Int} {o:HO} (h:St3 H p n) (hq:H q = none):St3 (upd H q o) p n :=
  let ⟨a,b,c,h,x⟩:=h; ⟨a,b,c,Same.new hq _ _ h,x⟩
theorem Fr2.new {H:Hp} {q:Addr} {v:V} {a b:Int} {o:HO} (h:Fr2 H v a b) (hq:H q = none):Fr2 (upd H q o) v a b:=h.same (Same.new hq)
structure Df (K:PySem.W.Frag) (mg:Str -> Option Value) (x:Str) (st:Stmt) (ps:List Str):Prop where
  ex:∃ (f:Addr) (fd:FuncData),(∃ (oc:Value) (od:Option Addr) (dV kV doc pm:Value) (an:Option Addr) (cdv ct:Value) (osl:Array (Option Value)),
    fd = PySem.W.fnOf x x (defArgs st) (defBody st) (defScope st) dV kV doc pm an cdv ct /\ K.lookup f = some ⟨oc,od,.func fd,osl⟩ /\ PySem.W.codeIn K cdv x = true) /\ PySem.W.keepIn K (.ref f) = true /\ mg x = some (.ref f) /\ Binds K fd ps []
structure Okf (P:Program) (w:World) (K:PySem.W.Frag) (mg:Str -> Option Value) (base:Heap) (k:Nat) (x:Str) (ps:List Str) (sp:Sp):Prop where
  ex:∃ (f:Addr) (fd:FuncData),mg x = some (.ref f) /\ PySem.W.keepIn K (.ref f) = true /\ Binds K fd ps [] /\ FnOk P w K mg base CX0 k f fd ps sp
theorem Okf.mono {P:Program} {w:World} {K:PySem.W.Frag} {mg:Str -> Option Value} {base:Heap} {j k:Nat} {x:Str} {ps:List Str} {sp:Sp} (o:Okf P w K mg base j x ps sp) (h:j <= k):Okf P w K mg base k x ps sp :=
  let ⟨f,fd,a,b,c,d⟩:=o.ex; ⟨f,fd,a,b,c,d.mono h⟩
theorem Okf.of {P:Program} {w:World} {K:PySem.W.Frag} {mg:Str -> Option Value} {base:Heap} {k:Nat} {x:Str} {st:Stmt} {N ps:List Str} {sp:Sp} (d:Df K mg x st ps) (S:FnScope N ps (defScope st)) (len:∀ vs H Q E,sp vs H Q E -> vs.length = ps.length)
    (hbody:∀ (f:Addr) (cdv:Value) (A:Around) (outer:List Env) (s:Shared) (H:Hp) (vs:List V) (Q:VK) (E:XK),Room k (A.deeper (envOfC x (defScope st) s.heap.objs.size f cdv)) -> sp vs H Q E ->
      ∃ t,PSs (cxOf CX0 P w K mg base N x (defScope st) f cdv A outer s H E).nox (defBody st) t /\ t { nx:=fun _ H' => Q .non H',rt:=Q } (start N vs) H):Okf P w K mg base (k + 1) x ps sp:=by
  obtain ⟨f,fd,⟨oc,od,dV,kV,doc,pm,an,cdv,ct,osl,rfl,lk,hcd⟩,kp,a,b⟩:=d.ex
  refine ⟨f,_,a,kp,b,fn_of lk hcd S len fun A outer s H vs Q E hr hsp => ?_⟩
  obtain ⟨t,h,q⟩:=hbody f cdv A outer s H vs Q E hr hsp
  exact ⟨t,h.nox,q⟩
theorem df_mk {K:PySem.W.Frag} {mg:Str -> Option Value} {h:Heap} {x:Str} {st:Stmt} {ps:List Str} {f:Addr} {oc:Value} {od an:Option Addr} {osl:Array (Option Value)} {dV kV doc pm cdv ct:Value} (X:K.In h) (G:h.Ns mainGlobals mg)
    (a:PySem.W.nsIn K mainGlobals x = some (some (.ref f))) (l:K.lookup f = some ⟨oc,od,.func (PySem.W.fnOf x x (defArgs st) (defBody st) (defScope st) dV kV doc pm an cdv ct),osl⟩)
    (c:PySem.W.codeIn K cdv x = true) (k:PySem.W.keepIn K (.ref f) = true)
    (b:∀ us:List Value,us.length = ps.length -> bindArgs (PySem.W.fnOf x x (defArgs st) (defBody st) (defScope st) dV kV doc pm an cdv ct) ⟨us,[]⟩ = pure (ps.zip us)):Df K mg x st ps :=
  ⟨f,_,⟨oc,od,dV,kV,doc,pm,an,cdv,ct,osl,rfl,l,c⟩,k,PySem.W.mg_of X G a,.all b⟩
structure DfD (K:PySem.W.Frag) (mg:Str -> Option Value) (x:Str) (st:Stmt) (ps:List Str) (dvs:List V):Prop where
  ex:∃ (f:Addr) (fd:FuncData),(∃ (oc:Value) (od:Option Addr) (dV kV doc pm:Value) (an:Option Addr) (cdv ct:Value) (osl:Array (Option Value)),
    fd = PySem.W.fnOf x x (defArgs st) (defBody st) (defScope st) dV kV doc pm an cdv ct /\ K.lookup f = some ⟨oc,od,.func fd,osl⟩ /\ PySem.W.codeIn K cdv x = true) /\ PySem.W.keepIn K (.ref f) = true /\ mg x = some (.ref f) /\ Binds K fd ps [] /\ ∃ ds,Vals dvs ds /\ Binds K fd ps ds
structure OkfD (P:Program) (w:World) (K:PySem.W.Frag) (mg:Str -> Option Value) (base:Heap) (k:Nat) (x:Str) (ps:List Str) (dvs:List V) (sp:Sp):Prop where
  ex:∃ (f:Addr) (fd:FuncData),mg x = some (.ref f) /\ PySem.W.keepIn K (.ref f) = true /\ Binds K fd ps [] /\ (∃ ds,Vals dvs ds /\ Binds K fd ps ds) /\ FnOk P w K mg base CX0 k f fd ps sp
theorem OkfD.mono {P:Program} {w:World} {K:PySem.W.Frag} {mg:Str -> Option Value} {base:Heap} {j k:Nat} {x:Str} {ps:List Str} {dvs:List V} {sp:Sp} (o:OkfD P w K mg base j x ps dvs sp) (h:j <= k):OkfD P w K mg base k x ps dvs sp :=
  let ⟨f,fd,a,b,c,e,d⟩:=o.ex; ⟨f,fd,a,b,c,e,d.mono h⟩
theorem OkfD.f {P:Program} {w:World} {K:PySem.W.Frag} {mg:Str -> Option Value} {base:Heap} {k:Nat} {x:Str} {ps:List Str} {dvs:List V} {sp:Sp} (o:OkfD P w K mg base k x ps dvs sp):Okf P w K mg base k x ps sp :=
  let ⟨f,fd,a,b,c,_,d⟩:=o.ex; ⟨f,fd,a,b,c,d⟩
theorem OkfD.of {P:Program} {w:World} {K:PySem.W.Frag} {mg:Str -> Option Value} {base:Heap} {k:Nat} {x:Str} {st:Stmt} {N ps:List Str} {dvs:List V} {sp:Sp} (d:DfD K mg x st ps dvs) (S:FnScope N ps (defScope st)) (len:∀ vs H Q E,sp vs H Q E -> vs.length = ps.length)
    (hbody:∀ (f:Addr) (cdv:Value) (A:Around) (outer:List Env) (s:Shared) (H:Hp) (vs:List V) (Q:VK) (E:XK),Room k (A.deeper (envOfC x (defScope st) s.heap.objs.size f cdv)) -> sp vs H Q E ->
      ∃ t,PSs (cxOf CX0 P w K mg base N x (defScope st) f cdv A outer s H E).nox (defBody st) t /\ t { nx:=fun _ H' => Q .non H',rt:=Q } (start N vs) H):OkfD P w K mg base (k + 1) x ps dvs sp:=by
  obtain ⟨f,fd,⟨oc,od,dV,kV,doc,pm,an,cdv,ct,osl,rfl,lk,hcd⟩,kp,a,b,b2⟩:=d.ex
  refine ⟨f,_,a,kp,b,b2,fn_of lk hcd S len fun A outer s H vs Q E hr hsp => ?_⟩
  obtain ⟨t,h,q⟩:=hbody f cdv A outer s H vs Q E hr hsp
  exact ⟨t,h.nox,q⟩
section
variable {X:Cx} {k:Nat} {x:Str} {ps:List Str} {dvs:List V} {sp:Sp} {p pos:Pos} {e:Expr} {es:List Expr} {t:TA}
theorem r_callD {σ:St} {H:Hp} {Q:VK} {E:XK} {tr:TA} (k:tr σ H fun vs H1 => sp (vs ++ dvs) H1 Q E):tCall sp dvs E tr σ H Q:=k
end
section
variable {X:Cx} {k:Nat} {x:Str} {ps:List Str} {sp:Sp} {p pos:Pos} {e:Expr} {es:List Expr} {t:TA}
theorem pe_callO (o:Okf X.prog X.w X.K X.mg X.base k x ps sp) (hr:Room k X.A) (hg:Gl X x) (ha:PA X (e :: es) t) (hdb:(x == ("__debug__":Str)) = false:=by decide)
    (he:starEach (e :: es) X.env = (false,eval e X.env) :: starEach es X.env:=by rfl) (hpl:(backTo pos (starEach es X.env)).any (·.1) = false:=by rfl) :
    PE X (.Call (.Name x p) (e :: es) [] pos) (tCall sp [] E0 t):=by
  obtain ⟨f,fd,a,b,c,d⟩:=o.ex
  exact pe_call d hr hg a b c .nil pass0 ha hdb he hpl
end
section
variable {σ:St} {H:Hp} {Q:VK} {D:Ends} {v:V} {i j:Int} {K:PySem.W.Frag}
theorem r_ixs {p:Addr} {xs:List V} (h:SqL K H p xs) (e:atI xs i = some v) (k:Q v H):rIxLT K (.ref p) (.int i) H Q:=.inl (r_ixL h e k)
theorem r_mod (h:0 < j) (k:Q (.int (i % j)) H):rI (fun _ j => 0 < j) (fun i j => .int (i % j)) (.int i) (.int j) H Q:=r_I h k
theorem r_mul (h:CMulB i j) (k:Q (.int (i * j)) H):rI CMulB (fun i j => .int (i * j)) (.int i) (.int j) H Q:=r_I h k
theorem CDivB.of (h0:0 < j) (h1:j < 2 ^ 64):CDivB i j:=⟨by omega,Sm.mono (m:=64) (Sm.of (by omega) (by omega)) (by decide)⟩
theorem r_fdiv (h:CDivB i j) (k:Q (.int (i.fdiv j)) H):rI CDivB (fun i j => .int (i.fdiv j)) (.int i) (.int j) H Q:=r_I h k
theorem r_pow18 (k:Q (.int 1000000000000000000) H):rI CPow (fun i j => .int (i ^ j.toNat)) (.int 10) (.int 18) H Q:=r_I ⟨by decide,by decide,by decide⟩ k
theorem r_pow9 (k:Q (.int 1000000000) H):rI CPow (fun i j => .int (i ^ j.toNat)) (.int 10) (.int 9) H Q:=r_I ⟨by decide,by decide,by decide⟩ k
theorem r_gsub {to ti:TE} {t:TSet} {R:St -> Hp -> Prop} (k:to σ H fun o H1 => ti σ H1 fun i H2 => t o i v H2 fun H3 => R σ H3):gSub to ti t v σ H R:=k
theorem r_parK {n m:Nat} {w:V} (k:D.nx ((σ.set n (some v)).set m (some w)) H):∃ v' w',[v,w] = [v',w'] /\ D.nx ((σ.set n (some v')).set m (some w')) H:=⟨v,w,rfl,k⟩
theorem SqL.kp {p a:Addr} {H H0 H':Hp} {xs:List V} (h:SqL K H0 a xs) (hp:H0 p = none) (e:Kp p H0 H'):SqL K H' a xs:=by
  rcases h with (h | ⟨o,h⟩) | h
  . exact .inl (.inl (e _ _ (ne_of_none h hp) h))
  . exact .inl (.inr ⟨o,e _ _ (ne_of_none h hp) h⟩)
  . exact .inr h
end
theorem bt_int:bootBuiltins "int" = some (.type "int"):=by decide +kernel
theorem bt_bool:bootBuiltins "bool" = some (.type "bool"):=by decide +kernel
theorem bt_str:bootBuiltins "str" = some (.type "str"):=by decide +kernel
theorem bt_list:bootBuiltins "list" = some (.type "list"):=by decide +kernel
theorem bt_tuple:bootBuiltins "tuple" = some (.type "tuple"):=by decide +kernel
theorem bt_enumerate:bootBuiltins "enumerate" = some (.type "enumerate"):=by decide +kernel
theorem bt_len:bootBuiltins "len" = some (.builtin "len"):=by decide +kernel
theorem bt_abs:bootBuiltins "abs" = some (.builtin "abs"):=by decide +kernel
theorem bt_max:bootBuiltins "max" = some (.builtin "max"):=by decide +kernel
theorem bt_min:bootBuiltins "min" = some (.builtin "min"):=by decide +kernel
theorem bt_isinstance:bootBuiltins "isinstance" = some (.builtin "isinstance"):=by decide +kernel
theorem bt_all:bootBuiltins "all" = some (.builtin "all"):=by decide +kernel
structure Bl (mg:Str -> Option Value):Prop where
  z_int:mg "int" = none
  z_bool:mg "bool" = none
  z_str:mg "str" = none
  z_list:mg "list" = none
  z_tuple:mg "tuple" = none
  z_dict:mg "dict" = none
  z_set:mg "set" = none
  z_range:mg "range" = none
  z_enumerate:mg "enumerate" = none
  z_zip:mg "zip" = none
  z_reversed:mg "reversed" = none
  z_len:mg "len" = none
  z_abs:mg "abs" = none
  z_max:mg "max" = none
  z_min:mg "min" = none
  z_isinstance:mg "isinstance" = none
  z_sorted:mg "sorted" = none
  z_all:mg "all" = none
  z_any:mg "any" = none
  z_sum:mg "sum" = none
section
variable {K:PySem.W.Frag} {H:Hp} {Q:VK}
theorem kit_bool_bool:PySem.W.kitOne K (.type "bool") (.type "bool") = some true:=by first | rfl | with_unfolding_all rfl | decide
theorem kit_bool_int:PySem.W.kitOne K (.type "bool") (.type "int") = some true:=by first | rfl | with_unfolding_all rfl | decide
theorem kit_bool_tuple:PySem.W.kitOne K (.type "bool") (.type "tuple") = some false:=by first | rfl | with_unfolding_all rfl | decide
theorem kit_int_bool:PySem.W.kitOne K (.type "int") (.type "bool") = some false:=by first | rfl | with_unfolding_all rfl | decide
theorem kit_int_int:PySem.W.kitOne K (.type "int") (.type "int") = some true:=by first | rfl | with_unfolding_all rfl | decide
theorem kit_int_str:PySem.W.kitOne K (.type "int") (.type "str") = some false:=by first | rfl | with_unfolding_all rfl | decide
theorem kit_int_tuple:PySem.W.kitOne K (.type "int") (.type "tuple") = some false:=by first | rfl | with_unfolding_all rfl | decide
theorem kit_str_bool:PySem.W.kitOne K (.type "str") (.type "bool") = some false:=by first | rfl | with_unfolding_all rfl | decide
theorem kit_str_int:PySem.W.kitOne K (.type "str") (.type "int") = some false:=by first | rfl | with_unfolding_all rfl | decide
theorem kit_str_str:PySem.W.kitOne K (.type "str") (.type "str") = some true:=by first | rfl | with_unfolding_all rfl | decide
theorem kit_str_tuple:PySem.W.kitOne K (.type "str") (.type "tuple") = some false:=by first | rfl | with_unfolding_all rfl | decide
theorem kit_str_list:PySem.W.kitOne K (.type "str") (.type "list") = some false:=by first | rfl | with_unfolding_all rfl | decide
theorem kit_tuple_tuple:PySem.W.kitOne K (.type "tuple") (.type "tuple") = some true:=by first | rfl | with_unfolding_all rfl | decide
theorem kit_list_str:PySem.W.kitOne K (.type "list") (.type "str") = some false:=by first | rfl | with_unfolding_all rfl | decide
theorem kit_list_tuple:PySem.W.kitOne K (.type "list") (.type "tuple") = some false:=by first | rfl | with_unfolding_all rfl | decide
theorem kit_list_list:PySem.W.kitOne K (.type "list") (.type "list") = some true:=by first | rfl | with_unfolding_all rfl | decide
theorem kit_NoneType_bool:PySem.W.kitOne K (.type "NoneType") (.type "bool") = some false:=by first | rfl | with_unfolding_all rfl | decide
theorem kit_NoneType_int:PySem.W.kitOne K (.type "NoneType") (.type "int") = some false:=by first | rfl | with_unfolding_all rfl | decide
theorem kit_NoneType_str:PySem.W.kitOne K (.type "NoneType") (.type "str") = some false:=by first | rfl | with_unfolding_all rfl | decide
theorem kit_NoneType_tuple:PySem.W.kitOne K (.type "NoneType") (.type "tuple") = some false:=by first | rfl | with_unfolding_all rfl | decide
theorem r_isTy {T:String} {x:V} {t:Value} {b:Bool} (ty:TyOf K H x t) (e:PySem.W.kitOne K t (.type T) = some b) (k:Q (.bl b) H):rIsTy K T [x,.ty T] H Q:=⟨x,t,b,rfl,ty,e,k⟩
end
section
variable {X:Cx} {K:PySem.W.Frag} {σ:St} {H:Hp} {Q:VK} {D:Ends} {i j:Int} {b:Bool}
noncomputable def rAbs:List V -> Hp -> VK -> Prop:=fun xs H Q => ∃ i,xs = [.int i] /\ Q (.int (if i < 0 then -i else i)) H
theorem c_abs:CallR X (.builtin "abs") rAbs:=call_abs
theorem r_abs (k:Q (.int (if i < 0 then -i else i)) H):rAbs [.int i] H Q:=⟨i,rfl,k⟩
noncomputable def rMax2:List V -> Hp -> VK -> Prop:=fun xs H Q => ∃ i j,xs = [.int i,.int j] /\ Q (.int (if j > i then j else i)) H
theorem c_max (hc:X.calm = true):CallR X (.builtin "max") rMax2:=call_max2 hc
theorem r_max (k:Q (.int (if j > i then j else i)) H):rMax2 [.int i,.int j] H Q:=⟨i,j,rfl,k⟩
noncomputable def rMin2:List V -> Hp -> VK -> Prop:=fun xs H Q => ∃ i j,xs = [.int i,.int j] /\ Q (.int (if j < i then j else i)) H
theorem c_min (hc:X.calm = true):CallR X (.builtin "min") rMin2:=call_min2 hc
theorem r_min (k:Q (.int (if j < i then j else i)) H):rMin2 [.int i,.int j] H Q:=⟨i,j,rfl,k⟩
noncomputable def rLen (K:PySem.W.Frag):List V -> Hp -> VK -> Prop:=fun xs H Q => ∃ x n,xs = [x] /\ LenV K x H n /\ Q (.int n) H
theorem c_len:CallR X (.builtin "len") (rLen X.K):=call_len
theorem r_lenL {p:Addr} {xs:List V} (h:SqL K H p xs) (k:Q (.int xs.length) H):rLen K [.ref p] H Q:=⟨_,_,rfl,.inl ⟨xs,h,rfl⟩,k⟩
theorem r_lenl {p:Addr} {xs:List V} (h:H p = some (.lst xs)) (k:Q (.int xs.length) H):rLen K [.ref p] H Q:=r_lenL (SqL.of h) k
theorem r_lent {p:Addr} {xs:List V} (h:H p = some (.tup xs)) (k:Q (.int xs.length) H):rLen K [.ref p] H Q:=⟨_,_,rfl,.inr ⟨xs,SqT.of h,rfl⟩,k⟩
theorem r_lens {x:Str} (h:x.length <= sizeLine) (k:Q (.int x.length) H):rLen K [.str x] H Q:=⟨_,_,rfl,⟨h,rfl⟩,k⟩
noncomputable def rInt1:List V -> Hp -> VK -> Prop:=fun xs H Q => (∃ i,xs = [.int i] /\ Q (.int i) H) ∨ ∃ k,xs = [.bl k] /\ Q (.int (if k then 1 else 0)) H
theorem c_int:CallR X (.type "int") rInt1:=call_int1
theorem r_intB (k:Q (.int (if b then 1 else 0)) H):rInt1 [.bl b] H Q:=.inr ⟨b,rfl,k⟩
noncomputable def forK (g:TG) (tb:TS) (D:Ends) (σ:St):It -> Hp -> Prop:=fun J H1 => ∃ W:Nat -> Nat -> St -> Hp -> Prop,(∃ m,W 0 m σ H1) /\ ∀ i m σ H,W i m σ H ->
  (J.stop i H /\ D.nx σ H) ∨ (J.go i H /\ ∃ N:St -> Hp -> Prop,(∀ σ' H',N σ' H' -> ∃ m',m' < m /\ W (i + 1) m' σ' H') /\ ∀ x H',J.yld i H x H' -> g x σ H' fun σ2 H2 => tb { D with nx:=N,ct:=N,bk:=D.nx } σ2 H2)
theorem r_for {wi:TI} {g:TG} {tb:TS} (k:wi σ H (forK g tb D σ)):tFor wi g tb D σ H:=k
noncomputable def rng1K (R:It -> Hp -> Prop):List V -> Hp -> Prop:=fun vs H1 => ∃ j:Int,vs = [.int j] /\ -(2 ^ 62) <= j /\ j < 2 ^ 62 /\ R (Itr 0 j.toNat) H1
noncomputable def rng2K (R:It -> Hp -> Prop):List V -> Hp -> Prop:=fun vs H1 => ∃ i j:Int,vs = [.int i,.int j] /\ (-(2 ^ 62) <= i /\ i < 2 ^ 62 /\ -(2 ^ 62) <= j /\ j < 2 ^ 62) /\ R (Itr i (j - i).toNat) H1
theorem r_rng1 {ta:TA} {R:It -> Hp -> Prop} (k:ta σ H (rng1K R)):iRng1 ta σ H R:=k
theorem r_rng2 {ta:TA} {R:It -> Hp -> Prop} (k:ta σ H (rng2K R)):iRng2 ta σ H R:=k
theorem r_rng1K {R:It -> Hp -> Prop} (h1:-(2 ^ 62) <= j) (h2:j < 2 ^ 62) (k:R (Itr 0 j.toNat) H):rng1K R [.int j] H:=⟨j,rfl,h1,h2,k⟩
theorem r_rng2K {R:It -> Hp -> Prop} (h1:-(2 ^ 62) <= i) (h2:i < 2 ^ 62) (h3:-(2 ^ 62) <= j) (h4:j < 2 ^ 62) (k:R (Itr i (j - i).toNat) H):rng2K R [.int i,.int j] H:=⟨i,j,rfl,⟨h1,h2,h3,h4⟩,k⟩
theorem r_forR {lo:Int} {n:Nat} {g:TG} {tb:TS} (Pv:Nat -> St -> Hp -> Prop) (h0:Pv 0 σ H)
    (hs:∀ i σ H,i < n -> Pv i σ H -> g (.int (lo + i)) σ H fun σ2 H2 => tb ⟨Pv (i + 1),D.rt,D.nx,Pv (i + 1)⟩ σ2 H2) (hd:∀ σ H,Pv n σ H -> D.nx σ H):forK g tb D σ (Itr lo n) H:=for_range Pv h0 hs hd
noncomputable def listK (K:PySem.W.Frag) (R:It -> Hp -> Prop):VK:=fun x H1 => ∃ a,x = .ref a /\ (∃ xs,SqL K H1 a xs) /\ R (Itl K a) H1
theorem r_iList {tl:TE} {R:It -> Hp -> Prop} (k:tl σ H (listK K R)):iList K tl σ H R:=k
theorem r_listK {a:Addr} {xs:List V} {R:It -> Hp -> Prop} (h:SqL K H a xs) (k:R (Itl K a) H):listK K R (.ref a) H:=⟨a,rfl,⟨xs,h⟩,k⟩
theorem r_forL {a:Addr} {xs:List V} {g:TG} {tb:TS} (Pv:Nat -> St -> Hp -> Prop) (h0:Pv 0 σ H) (hl:∀ i σ H,i <= xs.length -> Pv i σ H -> SqL K H a xs)
    (hs:∀ i x σ H,xs[i]? = some x -> Pv i σ H -> g x σ H fun σ2 H2 => tb ⟨Pv (i + 1),D.rt,D.nx,Pv (i + 1)⟩ σ2 H2) (hd:∀ σ H,Pv xs.length σ H -> D.nx σ H):forK g tb D σ (Itl K a) H:=for_list Pv h0 hl hs hd
end
end L2
namespace L2
open PySem
noncomputable def sg (t b:Int):Int:=if b < 0 then 0 - (Int.gcd t b:Int) else (Int.gcd t b:Int)
noncomputable def lowT (t b:Int):Int:=t.fdiv (sg t b)
noncomputable def lowB (t b:Int):Int:=b.fdiv (sg t b)
theorem gcd_pos {t b:Int} (h:b ≠ 0):0 < Int.gcd t b:=Nat.pos_of_ne_zero fun e => h (Int.gcd_eq_zero_iff.mp e).2
theorem sg_ne {t b:Int} (h:b ≠ 0):sg t b ≠ 0:=by
  have:=gcd_pos (t:=t) h
  unfold sg
  split <;> omega
theorem sg_dvd_l (t b:Int):sg t b ∣ t:=by
  unfold sg
  split
  . exact (Int.zero_sub _ ▸ Int.neg_dvd.mpr (Int.gcd_dvd_left ..))
  . exact Int.gcd_dvd_left ..
theorem sg_dvd_r (t b:Int):sg t b ∣ b:=by
  unfold sg
  split
  . exact (Int.zero_sub _ ▸ Int.neg_dvd.mpr (Int.gcd_dvd_right ..))
  . exact Int.gcd_dvd_right ..
theorem fdiv_of {a g:Int} (hg:g ≠ 0) (h:g ∣ a):a.fdiv g * g = a:=by
  obtain ⟨c,rfl⟩:=h
  rw [Int.mul_fdiv_cancel_left _ hg,Int.mul_comm]
theorem lowT_mul {t b:Int} (h:b ≠ 0):lowT t b * sg t b = t:=fdiv_of (sg_ne h) (sg_dvd_l t b)
theorem lowB_mul {t b:Int} (h:b ≠ 0):lowB t b * sg t b = b:=fdiv_of (sg_ne h) (sg_dvd_r t b)
theorem sg_natAbs (t b:Int):(sg t b).natAbs = Int.gcd t b:=by
  unfold sg
  split <;> omega
theorem lowB_pos {t b:Int} (h:b ≠ 0):0 < lowB t b:=by
  have e:=lowB_mul (t:=t) h
  have hp:=gcd_pos (t:=t) h
  by_cases hb:b < 0
  . have hs:sg t b < 0:=by unfold sg; rw [if_pos hb]; omega
    rcases Int.lt_or_le 0 (lowB t b) with q | q
    . exact q
    . have:0 <= lowB t b * sg t b:=Int.mul_nonneg_of_nonpos_of_nonpos q (Int.le_of_lt hs)
      omega
  . have hs:0 < sg t b:=by unfold sg; rw [if_neg hb]; omega
    rcases Int.lt_or_le 0 (lowB t b) with q | q
    . exact q
    . have:lowB t b * sg t b <= 0:=Int.mul_nonpos_of_nonpos_of_nonneg q (Int.le_of_lt hs)
      omega
theorem low_cop {t b:Int} (h:b ≠ 0):Int.gcd (lowT t b) (lowB t b) = 1:=by
  have e1:=lowT_mul (t:=t) h
  have e2:=lowB_mul (t:=t) h
  have hp:=gcd_pos (t:=t) h
  have e:Int.gcd (lowT t b * sg t b) (lowB t b * sg t b) = Int.gcd (lowT t b) (lowB t b) * (sg t b).natAbs:=Int.gcd_mul_right ..
  rw [e1,e2,sg_natAbs] at e
  have:1 * Int.gcd t b = Int.gcd (lowT t b) (lowB t b) * Int.gcd t b:=by omega
  exact (Nat.eq_of_mul_eq_mul_right hp this).symm
theorem low_cross {t b:Int} (h:b ≠ 0):t * lowB t b = b * lowT t b:=by
  have e1:=lowT_mul (t:=t) h
  have e2:=lowB_mul (t:=t) h
  calc t * lowB t b = (lowT t b * sg t b) * lowB t b:=by rw [e1]
    _ = (lowB t b * sg t b) * lowT t b:=by rw [Int.mul_assoc,Int.mul_comm (sg t b),← Int.mul_assoc,Int.mul_comm (lowT t b),Int.mul_assoc,Int.mul_comm (lowT t b),← Int.mul_assoc]
    _ = b * lowT t b:=by rw [e2]
theorem natAbs_le_of_mul {a g c:Int} (hg:g ≠ 0) (e:a * g = c):a.natAbs <= c.natAbs:=by
  rw [← e,Int.natAbs_mul]
  exact Nat.le_mul_of_pos_right _ (by omega)
theorem lowT_le {t b:Int} (h:b ≠ 0):(lowT t b).natAbs <= t.natAbs:=natAbs_le_of_mul (sg_ne h) (lowT_mul h)
theorem lowB_le {t b:Int} (h:b ≠ 0):(lowB t b).natAbs <= b.natAbs:=natAbs_le_of_mul (sg_ne h) (lowB_mul h)
theorem gcd_step {one other:Int} (h:0 < other):Int.gcd other (one % other) = Int.gcd one other:=by
  have e:one % other = one - (one / other) * other:=by rw [Int.emod_def,Int.mul_comm]
  rw [e,Int.gcd_comm other,Int.gcd_sub_mul_right_left]
theorem gcd_stepN {one other:Int} (h:other ≠ 0):Int.gcd other (one.fmod other) = Int.gcd one other:=by
  have e:one.fmod other = one - (one.fdiv other) * other:=by rw [Int.fmod_def,Int.mul_comm]
  rw [e,Int.gcd_comm other,Int.gcd_sub_mul_right_left]
theorem pick {ns:List Int} {i:Int} (h0:0 <= i) (h1:i < ns.length):∃ z,z ∈ ns /\ atI (ns.map V.int) i = some (.int z):=by
  have hk:i.toNat < ns.length:=by omega
  have ek:i = ((i.toNat:Nat):Int):=by omega
  have q:atI (ns.map V.int) ((i.toNat:Nat):Int) = some (.int ns[i.toNat]):=atI_nat (by rw [List.getElem?_map,List.getElem?_eq_getElem hk] <;> rfl)
  rw [← ek] at q
  exact ⟨ns[i.toNat],List.getElem_mem hk,q⟩
theorem fdiv_nn {a b:Int} (ha:0 <= a) (hb:0 < b):0 <= a.fdiv b:=by
  rw [Int.fdiv_eq_ediv_of_nonneg _ (Int.le_of_lt hb)]
  exact Int.ediv_nonneg ha (Int.le_of_lt hb)
theorem r_modN {i j:Int} {H:Hp} {Q:VK} (h:j ≠ 0) (k:Q (.int (i.fmod j)) H):rI (fun _ j => j ≠ 0) (fun i j => .int (i.fmod j)) (.int i) (.int j) H Q:=r_I h k
theorem fmod_lt {a b:Int} (h:b ≠ 0):(a.fmod b).natAbs < b.natAbs:=by
  have e:=Int.fmod_eq_emod (a:=a) (b:=b)
  have h1:=Int.emod_nonneg a h
  have h2:=Int.emod_lt a h
  rw [e]
  by_cases hc:0 <= b ∨ b ∣ a
  . rw [if_pos hc]
    omega
  . rw [if_neg hc]
    have h3:a % b ≠ 0:=fun z => hc (.inr (Int.dvd_of_emod_eq_zero z))
    omega
noncomputable def frV:V -> V -> Bool
  | .int a,.int b => decide (1 <= b) && decide (Int.gcd a b = 1)
  | _,_ => false
theorem low_worth {t b:Int} (h:b ≠ 0):lowT t b * b = t * lowB t b:=by rw [low_cross h,Int.mul_comm]
structure Fq (H:Hp) (v:V) (a b:Int) (n:Nat):Prop where
  st:Fr2 H v a b
  pos:0 < b
  cop:Int.gcd a b = 1
  sa:Sm n a
  sb:Sm n b
theorem Fq.same {H H':Hp} {v:V} {a b:Int} {n:Nat} (h:Fq H v a b n) (s:Same H H'):Fq H' v a b n:=⟨h.st.same s,h.pos,h.cop,h.sa,h.sb⟩
theorem Fq.mono {H:Hp} {v:V} {a b:Int} {m n:Nat} (h:Fq H v a b m) (l:m <= n):Fq H v a b n:=⟨h.st,h.pos,h.cop,h.sa.mono l,h.sb.mono l⟩
theorem Fq.low {H:Hp} {p:Addr} {t b:Int} {n:Nat} (h:H p = some (.tup [.int (lowT t b),.int (lowB t b)])) (hb:b ≠ 0) (ht:Sm n t) (hs:Sm n b):Fq H (.ref p) (lowT t b) (lowB t b) n :=
  ⟨⟨p,rfl,h⟩,lowB_pos hb,low_cop hb,Sm.le (lowT_le hb) ht,Sm.le (lowB_le hb) hs⟩
end L2
namespace L2
open PySem PySem.Spec PyProof.Rows
inductive Dt where
  | non | bl (b:Bool) | int (i:Int) | str (x:Str) | tup (xs:List Dt) | lst (xs:List Dt)
mutual
noncomputable def Den (H:Hp):Dt -> V -> Prop
  | .non,v => v = .non
  | .bl b,v => v = .bl b
  | .int i,v => v = .int i
  | .str x,v => v = .str x
  | .tup ds,v => ∃ p vs,v = .ref p /\ H p = some (.tup vs) /\ DenL H ds vs
  | .lst ds,v => ∃ p vs,v = .ref p /\ H p = some (.lst vs) /\ DenL H ds vs
noncomputable def DenL (H:Hp):List Dt -> List V -> Prop
  | [],vs => vs = []
  | d :: ds,vs => ∃ v r,vs = v :: r /\ Den H d v /\ DenL H ds r
end
mutual
noncomputable def deq:Dt -> Dt -> Bool
  | .non,.non => true
  | .bl a,.bl b => a == b
  | .bl a,.int b => (if a then 1 else 0) == b
  | .int a,.bl b => a == (if b then 1 else 0)
  | .int a,.int b => a == b
  | .str a,.str b => a == b
  | .tup xs,.tup ys => deqL xs ys
  | .lst xs,.lst ys => deqL xs ys
  | _,_ => false
noncomputable def deqL:List Dt -> List Dt -> Bool
  | [],[] => true
  | x :: xs,y :: ys => deq x y && deqL xs ys
  | _,_ => false
end
mutual
noncomputable def dep:Dt -> Nat
  | .tup xs => depL xs + 1
  | .lst xs => depL xs + 1
  | _ => 0
noncomputable def depL:List Dt -> Nat
  | [] => 0
  | x :: xs => max (dep x) (depL xs)
end
theorem DenL.length {H:Hp}:∀ {ds:List Dt} {vs:List V},DenL H ds vs -> ds.length = vs.length
  | [],vs,h => by rw [show vs = [] from h]; rfl
  | d :: ds,vs,h => by
    obtain ⟨v,r,rfl,_,t⟩:=h
    rw [List.length_cons,List.length_cons,DenL.length t]
mutual
theorem Den.same_eq {H:Hp}:∀ (d e:Dt) {x:V},Den H d x -> Den H e x -> deq d e = true
  | .tup ds,.tup es,x,h1,h2 => by
    obtain ⟨p,vs,rfl,a,b⟩:=h1
    obtain ⟨q,ws,e1,c,d⟩:=h2
    cases e1
    rw [a] at c
    cases c
    exact DenL.same_eq ds es b d
  | .lst ds,.lst es,x,h1,h2 => by
    obtain ⟨p,vs,rfl,a,b⟩:=h1
    obtain ⟨q,ws,e1,c,d⟩:=h2
    cases e1
    rw [a] at c
    cases c
    exact DenL.same_eq ds es b d
  | .tup ds,.lst es,x,h1,h2 => by
    obtain ⟨p,vs,rfl,a,b⟩:=h1
    obtain ⟨q,ws,e1,c,d⟩:=h2
    cases e1
    rw [a] at c
    cases c
  | .lst ds,.tup es,x,h1,h2 => by
    obtain ⟨p,vs,rfl,a,b⟩:=h1
    obtain ⟨q,ws,e1,c,d⟩:=h2
    cases e1
    rw [a] at c
    cases c
  | .non,e,x,h1,h2 => by
    have h1:x = .non:=h1
    subst h1
    cases e <;> first | rfl | (have h2:V.non = _:=h2; cases h2) | (obtain ⟨_,_,z,_⟩:=h2; cases z)
  | .bl b,e,x,h1,h2 => by
    have h1:x = .bl b:=h1
    subst h1
    cases e <;> first | (have h2:V.bl b = _:=h2; cases h2; exact beq_self_eq_true b) | (have h2:V.bl b = _:=h2; cases h2; done) | (obtain ⟨_,_,z,_⟩:=h2; cases z)
  | .int b,e,x,h1,h2 => by
    have h1:x = .int b:=h1
    subst h1
    cases e <;> first | (have h2:V.int b = _:=h2; cases h2; exact beq_self_eq_true b) | (have h2:V.int b = _:=h2; cases h2; done) | (obtain ⟨_,_,z,_⟩:=h2; cases z)
  | .str b,e,x,h1,h2 => by
    have h1:x = .str b:=h1
    subst h1
    cases e <;> first | (have h2:V.str b = _:=h2; cases h2; exact beq_self_eq_true b) | (have h2:V.str b = _:=h2; cases h2; done) | (obtain ⟨_,_,z,_⟩:=h2; cases z)
  | .tup ds,.non,x,h1,h2 => by obtain ⟨p,vs,rfl,_⟩:=h1; have h2:V.ref p = _:=h2; cases h2
  | .tup ds,.bl _,x,h1,h2 => by obtain ⟨p,vs,rfl,_⟩:=h1; have h2:V.ref p = _:=h2; cases h2
  | .tup ds,.int _,x,h1,h2 => by obtain ⟨p,vs,rfl,_⟩:=h1; have h2:V.ref p = _:=h2; cases h2
  | .tup ds,.str _,x,h1,h2 => by obtain ⟨p,vs,rfl,_⟩:=h1; have h2:V.ref p = _:=h2; cases h2
  | .lst ds,.non,x,h1,h2 => by obtain ⟨p,vs,rfl,_⟩:=h1; have h2:V.ref p = _:=h2; cases h2
  | .lst ds,.bl _,x,h1,h2 => by obtain ⟨p,vs,rfl,_⟩:=h1; have h2:V.ref p = _:=h2; cases h2
  | .lst ds,.int _,x,h1,h2 => by obtain ⟨p,vs,rfl,_⟩:=h1; have h2:V.ref p = _:=h2; cases h2
  | .lst ds,.str _,x,h1,h2 => by obtain ⟨p,vs,rfl,_⟩:=h1; have h2:V.ref p = _:=h2; cases h2
theorem DenL.same_eq {H:Hp}:∀ (ds es:List Dt) {xs:List V},DenL H ds xs -> DenL H es xs -> deqL ds es = true
  | [],[],xs,_,_ => rfl
  | [],e :: es,xs,h1,h2 => by
    have h1:xs = []:=h1
    subst h1
    obtain ⟨_,_,z,_⟩:=h2
    cases z
  | d :: ds,[],xs,h1,h2 => by
    have h2:xs = []:=h2
    subst h2
    obtain ⟨_,_,z,_⟩:=h1
    cases z
  | d :: ds,e :: es,xs,h1,h2 => by
    obtain ⟨v,r,rfl,a,b⟩:=h1
    obtain ⟨v',r',z,a',b'⟩:=h2
    cases z
    show (deq d e && deqL ds es) = true
    rw [Den.same_eq d e a a',DenL.same_eq ds es b b']
    rfl
end
noncomputable def nth (ds es:List Dt) (j:Nat):Bool:=match ds[j]?,es[j]? with
  | some d,some e => deq d e
  | _,_ => false
theorem deqL_all:∀ (ds es:List Dt),((List.range (min ds.length es.length)).all (nth ds es) && ds.length == es.length) = deqL ds es
  | [],[] => rfl
  | [],e :: es => by show (_ && (0 == es.length + 1)) = false; simp
  | d :: ds,[] => by show (_ && (ds.length + 1 == 0)) = false; simp
  | d :: ds,e :: es => by
    have ih:=deqL_all ds es
    show _ = (deq d e && deqL ds es)
    rw [← ih]
    have h1:min (d :: ds).length (e :: es).length = min ds.length es.length + 1:=by simp only [List.length_cons]; omega
    rw [h1,List.range_succ_eq_map,List.all_cons,List.all_map]
    have h2:(nth (d :: ds) (e :: es)) ∘ Nat.succ = nth ds es:=by funext j; rfl
    rw [h2]
    have h3:nth (d :: ds) (e :: es) 0 = deq d e:=rfl
    rw [h3]
    have h4:((d :: ds).length == (e :: es).length) = (ds.length == es.length):=by simp
    rw [h4,Bool.and_assoc]
section
variable {X:Cx} {pins:List (Addr×Obj)} {σ:St} {H:Hp} {s:Shared}
theorem tup_at (I:Inv X pins σ H s) {p:Addr} {vs:List V} (h:H p = some (.tup vs)):∃ its:List Value,Vals vs its /\ s.heap.IsTuple p its.toArray:=by
  obtain ⟨_,its,r,q⟩:=(show ObjOk X.prog X.w H s.heap p (.tup vs) from I.hok p _ h)
  exact ⟨its,r,q⟩
theorem lst_at (I:Inv X pins σ H s) {p:Addr} {vs:List V} (h:H p = some (.lst vs)):∃ its:List Value,Vals vs its /\ s.heap.IsList p its.toArray:=by
  obtain ⟨_,its,n,r,q⟩:=(show ObjOk X.prog X.w H s.heap p (.lst vs) from I.hok p _ h)
  exact ⟨its,r,_,q,rfl,_,rfl⟩
theorem in1_tup {A:Around} {ds:List Dt} (h:A.units + dep (.tup ds) < cLine):A.in1.units + depL ds < cLine:=by
  have e:dep (.tup ds) = depL ds + 1:=by simp [dep]
  show A.units + 1 + depL ds < cLine
  omega
theorem in1_lst {A:Around} {ds:List Dt} (h:A.units + dep (.lst ds) < cLine):A.in1.units + depL ds < cLine:=by
  have e:dep (.lst ds) = depL ds + 1:=by simp [dep]
  show A.units + 1 + depL ds < cLine
  omega
mutual
theorem eqAt_D (I:Inv X pins σ H s):∀ (d e:Dt) {x y:V} {u v:Value} {A:Around},Den H d x -> Den H e y -> RelV x u -> RelV y v -> A.units + dep d < cLine -> SeqAt.EqAt A s u v (deq d e)
  | .tup ds,e,x,y,u,v,A,h1,h2,rx,ry,hu => by
    obtain ⟨p,vs,rfl,a,b⟩:=h1
    cases rx
    obtain ⟨its,r,t⟩:=tup_at I a
    have hu':A.units < cLine:=by omega
    cases e with
    | tup es =>
      obtain ⟨q,ws,rfl,a',b'⟩:=id h2
      cases ry
      by_cases hne:p = q
      . subst hne
        have:=Den.same_eq (.tup ds) (.tup es) (x:=.ref p) ⟨p,vs,rfl,a,b⟩ h2
        rw [this]
        exact SeqAt.EqAt.same _
      . obtain ⟨its',r',t'⟩:=tup_at I a'
        have z:=SeqAt.RcAt.tuples (e:=nth ds es) t t' hu' (fun j g1 g2 => eqAt_L I ds es b b' r r' (in1_tup hu) j (by simpa using g1) (by simpa using g2))
        have l1:its.length = ds.length:=by rw [b.length,r.length]
        have l2:its'.length = es.length:=by rw [b'.length,r'.length]
        rw [List.size_toArray,List.size_toArray,l1,l2,deqL_all] at z
        exact SeqAt.EqAt.of_refs hne z
    | lst es =>
      obtain ⟨q,ws,rfl,a',b'⟩:=id h2
      cases ry
      obtain ⟨its',r',t'⟩:=lst_at I a'
      exact SeqAt.EqAt.tuple_list t t' hu'
    | non => cases (show y = .non from h2); cases ry; exact SeqAt.EqAt.tuple_none t hu'
    | bl b => cases (show y = .bl b from h2); cases ry; exact SeqAt.EqAt.tuple_bool b t hu'
    | int b => cases (show y = .int b from h2); obtain ⟨tk,rfl⟩:=ry; exact SeqAt.EqAt.tuple_int b tk t hu'
    | str b => cases (show y = .str b from h2); obtain ⟨tk,rfl⟩:=ry; exact SeqAt.EqAt.tuple_str b tk t hu'
  | .lst ds,e,x,y,u,v,A,h1,h2,rx,ry,hu => by
    obtain ⟨p,vs,rfl,a,b⟩:=h1
    cases rx
    obtain ⟨its,r,t⟩:=lst_at I a
    have hu':A.units < cLine:=by omega
    cases e with
    | lst es =>
      obtain ⟨q,ws,rfl,a',b'⟩:=id h2
      cases ry
      by_cases hne:p = q
      . subst hne
        have:=Den.same_eq (.lst ds) (.lst es) (x:=.ref p) ⟨p,vs,rfl,a,b⟩ h2
        rw [this]
        exact SeqAt.EqAt.same _
      . obtain ⟨its',r',t'⟩:=lst_at I a'
        have l1:its.length = ds.length:=by rw [b.length,r.length]
        have l2:its'.length = es.length:=by rw [b'.length,r'.length]
        by_cases hl:ds.length = es.length
        . have z:=SeqAt.RcAt.lists (e:=nth ds es) t t' (by rw [List.size_toArray,List.size_toArray,l1,l2,hl]) hu' (fun j g1 g2 => eqAt_L I ds es b b' r r' (in1_lst hu) j (by simpa using g1) (by simpa using g2))
          have e1:=deqL_all ds es
          rw [hl,Nat.min_self,beq_self_eq_true,Bool.and_true] at e1
          rw [List.size_toArray,l1,hl,e1] at z
          exact SeqAt.EqAt.of_refs hne z
        . have z:=SeqAt.RcAt.lists_lengths t t' (by rw [List.size_toArray,List.size_toArray,l1,l2]; simpa using hl) hu'
          have e1:=deqL_all ds es
          rw [show (ds.length == es.length) = false from by simpa using hl,Bool.and_false] at e1
          have e2:deq (.lst ds) (.lst es) = false:=by show deqL ds es = false; exact e1.symm
          rw [e2]
          exact SeqAt.EqAt.of_refs hne z
    | tup es =>
      obtain ⟨q,ws,rfl,a',b'⟩:=id h2
      cases ry
      obtain ⟨its',r',t'⟩:=tup_at I a'
      exact SeqAt.EqAt.list_tuple t t' hu'
    | non => cases (show y = .non from h2); cases ry; exact SeqAt.EqAt.list_none t hu'
    | bl b => cases (show y = .bl b from h2); cases ry; exact SeqAt.EqAt.list_bool b t hu'
    | int b => cases (show y = .int b from h2); obtain ⟨tk,rfl⟩:=ry; exact SeqAt.EqAt.list_int b tk t hu'
    | str b => cases (show y = .str b from h2); obtain ⟨tk,rfl⟩:=ry; exact SeqAt.EqAt.list_str b tk t hu'
  | .non,e,x,y,u,v,A,h1,h2,rx,ry,hu => by
    cases (show x = .non from h1); cases rx
    have hu':A.units < cLine:=by omega
    cases e with
    | tup es => obtain ⟨q,ws,rfl,a',b'⟩:=id h2; cases ry; obtain ⟨its',r',t'⟩:=tup_at I a'; exact SeqAt.EqAt.none_tuple t' hu'
    | lst es => obtain ⟨q,ws,rfl,a',b'⟩:=id h2; cases ry; obtain ⟨its',r',t'⟩:=lst_at I a'; exact SeqAt.EqAt.none_list t' hu'
    | non => cases (show y = .non from h2); cases ry; exact SeqAt.EqAt.same _
    | bl b => cases (show y = .bl b from h2); cases ry; exact SeqAt.EqAt.none_bool b
    | int b => cases (show y = .int b from h2); obtain ⟨tk,rfl⟩:=ry; exact SeqAt.EqAt.none_int b tk
    | str b => cases (show y = .str b from h2); obtain ⟨tk,rfl⟩:=ry; exact SeqAt.EqAt.none_str b tk
  | .bl c,e,x,y,u,v,A,h1,h2,rx,ry,hu => by
    cases (show x = .bl c from h1); cases rx
    have hu':A.units < cLine:=by omega
    cases e with
    | tup es => obtain ⟨q,ws,rfl,a',b'⟩:=id h2; cases ry; obtain ⟨its',r',t'⟩:=tup_at I a'; exact SeqAt.EqAt.bool_tuple c t' hu'
    | lst es => obtain ⟨q,ws,rfl,a',b'⟩:=id h2; cases ry; obtain ⟨its',r',t'⟩:=lst_at I a'; exact SeqAt.EqAt.bool_list c t' hu'
    | non => cases (show y = .non from h2); cases ry; exact SeqAt.EqAt.bool_none c
    | bl b => cases (show y = .bl b from h2); cases ry; exact SeqAt.EqAt.bool_bool c b
    | int b => cases (show y = .int b from h2); obtain ⟨tk,rfl⟩:=ry; exact SeqAt.EqAt.bool_int c b tk
    | str b => cases (show y = .str b from h2); obtain ⟨tk,rfl⟩:=ry; exact SeqAt.EqAt.bool_str c b tk
  | .int c,e,x,y,u,v,A,h1,h2,rx,ry,hu => by
    cases (show x = .int c from h1); obtain ⟨tc,rfl⟩:=rx
    have hu':A.units < cLine:=by omega
    cases e with
    | tup es => obtain ⟨q,ws,rfl,a',b'⟩:=id h2; cases ry; obtain ⟨its',r',t'⟩:=tup_at I a'; exact SeqAt.EqAt.int_tuple c tc t' hu'
    | lst es => obtain ⟨q,ws,rfl,a',b'⟩:=id h2; cases ry; obtain ⟨its',r',t'⟩:=lst_at I a'; exact SeqAt.EqAt.int_list c tc t' hu'
    | non => cases (show y = .non from h2); cases ry; exact SeqAt.EqAt.int_none c tc
    | bl b => cases (show y = .bl b from h2); cases ry; exact SeqAt.EqAt.int_bool c tc b
    | int b => cases (show y = .int b from h2); obtain ⟨tk,rfl⟩:=ry; exact SeqAt.EqAt.int_int c tc b tk
    | str b => cases (show y = .str b from h2); obtain ⟨tk,rfl⟩:=ry; exact SeqAt.EqAt.int_str c tc b tk
  | .str c,e,x,y,u,v,A,h1,h2,rx,ry,hu => by
    cases (show x = .str c from h1); obtain ⟨tc,rfl⟩:=rx
    have hu':A.units < cLine:=by omega
    cases e with
    | tup es => obtain ⟨q,ws,rfl,a',b'⟩:=id h2; cases ry; obtain ⟨its',r',t'⟩:=tup_at I a'; exact SeqAt.EqAt.str_tuple c tc t' hu'
    | lst es => obtain ⟨q,ws,rfl,a',b'⟩:=id h2; cases ry; obtain ⟨its',r',t'⟩:=lst_at I a'; exact SeqAt.EqAt.str_list c tc t' hu'
    | non => cases (show y = .non from h2); cases ry; exact SeqAt.EqAt.str_none c tc
    | bl b => cases (show y = .bl b from h2); cases ry; exact SeqAt.EqAt.str_bool c tc b
    | int b => cases (show y = .int b from h2); obtain ⟨tk,rfl⟩:=ry; exact SeqAt.EqAt.str_int c tc b tk
    | str b => cases (show y = .str b from h2); obtain ⟨tk,rfl⟩:=ry; exact SeqAt.EqAt.str_str c tc b tk
theorem eqAt_L (I:Inv X pins σ H s):∀ (ds es:List Dt) {xs ys:List V} {us vs:List Value} {A:Around},DenL H ds xs -> DenL H es ys -> Vals xs us -> Vals ys vs -> A.units + depL ds < cLine ->
    ∀ (j:Nat) (g1:j < us.length) (g2:j < vs.length),SeqAt.EqAt A s us[j] vs[j] (nth ds es j)
  | [],es,xs,ys,us,vs,A,h1,h2,r1,r2,hu => fun j g1 g2 => by
    have h1:xs = []:=h1
    subst h1
    cases r1
    exact absurd g1 (Nat.not_lt_zero _)
  | d :: ds,[],xs,ys,us,vs,A,h1,h2,r1,r2,hu => fun j g1 g2 => by
    have h2:ys = []:=h2
    subst h2
    cases r2
    exact absurd g2 (Nat.not_lt_zero _)
  | d :: ds,e :: es,xs,ys,us,vs,A,h1,h2,r1,r2,hu => fun j g1 g2 => by
    obtain ⟨x,xr,rfl,a,b⟩:=h1
    obtain ⟨y,yr,rfl,a',b'⟩:=h2
    cases r1 with
    | cons rx r1 =>
      cases r2 with
      | cons ry r2 =>
        have hd:depL (d :: ds) = max (dep d) (depL ds):=by simp [depL]
        cases j with
        | zero => exact eqAt_D I d e a a' rx ry (by omega)
        | succ j => exact eqAt_L I ds es b b' r1 r2 (by omega) j (by simpa using g1) (by simpa using g2)
end
noncomputable def rEqD:R2:=fun x y H Q => ∃ d e,Den H d x /\ Den H e y /\ dep d <= 60 /\ ((∃ ds es,d = .tup ds /\ e = .tup es) ∨ ∃ ds es,d = .lst ds /\ e = .lst es) /\ Q (.bl (deq d e)) H
noncomputable def rNeD:R2:=fun x y H Q => ∃ d e,Den H d x /\ Den H e y /\ dep d <= 60 /\ ((∃ ds es,d = .tup ds /\ e = .tup es) ∨ ∃ ds es,d = .lst ds /\ e = .lst es) /\ Q (.bl (!deq d e)) H
theorem op_eqD (hu:X.A.units + 64 < cLine):OpR X (compareOp .Eq) rEqD:=by
  intro pins s σ H x y v u Q I rx ry h
  obtain ⟨d,e,h1,h2,hd,k,q⟩:=h
  rcases k with ⟨ds,es,rfl,rfl⟩ | ⟨ds,es,rfl,rfl⟩
  . obtain ⟨p,vs,rfl,a,b⟩:=h1
    obtain ⟨p',ws,rfl,a',b'⟩:=h2
    cases rx
    cases ry
    obtain ⟨its,r,t⟩:=tup_at I a
    obtain ⟨its',r',t'⟩:=tup_at I a'
    have z:=SeqAt.RcAt.tuples (A:=X.A) (e:=nth ds es) t t' (by omega) (fun j g1 g2 => eqAt_L I ds es b b' r r' (in1_tup (by omega)) j (by simpa using g1) (by simpa using g2))
    have l1:its.length = ds.length:=by rw [b.length,r.length]
    have l2:its'.length = es.length:=by rw [b'.length,r'.length]
    rw [List.size_toArray,List.size_toArray,l1,l2,deqL_all] at z
    exact z _ _ _ _ ⟨.bl _,H,I,rfl,q⟩
  . obtain ⟨p,vs,rfl,a,b⟩:=h1
    obtain ⟨p',ws,rfl,a',b'⟩:=h2
    cases rx
    cases ry
    obtain ⟨its,r,t⟩:=lst_at I a
    obtain ⟨its',r',t'⟩:=lst_at I a'
    have l1:its.length = ds.length:=by rw [b.length,r.length]
    have l2:its'.length = es.length:=by rw [b'.length,r'.length]
    by_cases hl:ds.length = es.length
    . have z:=SeqAt.RcAt.lists (A:=X.A) (e:=nth ds es) t t' (by rw [List.size_toArray,List.size_toArray,l1,l2,hl]) (by omega) (fun j g1 g2 => eqAt_L I ds es b b' r r' (in1_lst (by omega)) j (by simpa using g1) (by simpa using g2))
      have e1:=deqL_all ds es
      rw [hl,Nat.min_self,beq_self_eq_true,Bool.and_true] at e1
      rw [List.size_toArray,l1,hl,e1] at z
      exact z _ _ _ _ ⟨.bl _,H,I,rfl,q⟩
    . have z:=SeqAt.RcAt.lists_lengths (A:=X.A) t t' (by rw [List.size_toArray,List.size_toArray,l1,l2]; simpa using hl) (by omega)
      have e1:=deqL_all ds es
      rw [show (ds.length == es.length) = false from by simpa using hl,Bool.and_false] at e1
      have e2:deq (.lst ds) (.lst es) = false:=by show deqL ds es = false; exact e1.symm
      rw [e2] at q
      exact z _ _ _ _ ⟨.bl _,H,I,rfl,q⟩
theorem op_neD (hu:X.A.units + 64 < cLine):OpR X (compareOp .NotEq) rNeD:=by
  intro pins s σ H x y v u Q I rx ry h
  obtain ⟨d,e,h1,h2,hd,k,q⟩:=h
  rcases k with ⟨ds,es,rfl,rfl⟩ | ⟨ds,es,rfl,rfl⟩
  . obtain ⟨p,vs,rfl,a,b⟩:=h1
    obtain ⟨p',ws,rfl,a',b'⟩:=h2
    cases rx
    cases ry
    obtain ⟨its,r,t⟩:=tup_at I a
    obtain ⟨its',r',t'⟩:=tup_at I a'
    have z:=SeqAt.RcNeAt.tuples (A:=X.A) (e:=nth ds es) t t' (by omega) (fun j g1 g2 => eqAt_L I ds es b b' r r' (in1_tup (by omega)) j (by simpa using g1) (by simpa using g2))
    have l1:its.length = ds.length:=by rw [b.length,r.length]
    have l2:its'.length = es.length:=by rw [b'.length,r'.length]
    rw [List.size_toArray,List.size_toArray,l1,l2,deqL_all] at z
    exact z _ _ _ _ ⟨.bl _,H,I,rfl,q⟩
  . obtain ⟨p,vs,rfl,a,b⟩:=h1
    obtain ⟨p',ws,rfl,a',b'⟩:=h2
    cases rx
    cases ry
    obtain ⟨its,r,t⟩:=lst_at I a
    obtain ⟨its',r',t'⟩:=lst_at I a'
    have l1:its.length = ds.length:=by rw [b.length,r.length]
    have l2:its'.length = es.length:=by rw [b'.length,r'.length]
    by_cases hl:ds.length = es.length
    . have z:=SeqAt.RcNeAt.lists (A:=X.A) (e:=nth ds es) t t' (by rw [List.size_toArray,List.size_toArray,l1,l2,hl]) (by omega) (fun j g1 g2 => eqAt_L I ds es b b' r r' (in1_lst (by omega)) j (by simpa using g1) (by simpa using g2))
      have e1:=deqL_all ds es
      rw [hl,Nat.min_self,beq_self_eq_true,Bool.and_true] at e1
      rw [List.size_toArray,l1,hl,e1] at z
      exact z _ _ _ _ ⟨.bl _,H,I,rfl,q⟩
    . have z:=SeqAt.RcNeAt.lists_lengths (A:=X.A) t t' (by rw [List.size_toArray,List.size_toArray,l1,l2]; simpa using hl) (by omega)
      have e1:=deqL_all ds es
      rw [show (ds.length == es.length) = false from by simpa using hl,Bool.and_false] at e1
      have e2:deq (.lst ds) (.lst es) = false:=by show deqL ds es = false; exact e1.symm
      rw [e2] at q
      exact z _ _ _ _ ⟨.bl _,H,I,rfl,q⟩
noncomputable def rEqA:R2:=fun x y H Q => rEq x y H Q ∨ rEqD x y H Q
noncomputable def rNeA:R2:=fun x y H Q => rNe x y H Q ∨ rNeD x y H Q
theorem op_eqA (hu:X.A.units + 64 < cLine):OpR X (compareOp .Eq) rEqA:=op_eq.or (op_eqD hu)
theorem op_neA (hu:X.A.units + 64 < cLine):OpR X (compareOp .NotEq) rNeA:=op_ne.or (op_neD hu)
end
section
variable {H:Hp} {Q:VK} {i j:Int} {b c:Bool} {x y:Str} {u v:V}
theorem e_int (k:Q (.bl (decide (i = j))) H):rEqA (.int i) (.int j) H Q:=.inl (r_eqI k)
theorem n_int (k:Q (.bl (!decide (i = j))) H):rNeA (.int i) (.int j) H Q:=.inl (r_neI k)
theorem e_bl (k:Q (.bl (b == c)) H):rEqA (.bl b) (.bl c) H Q:=.inl (r_eqB k)
theorem n_bl (k:Q (.bl (!(b == c))) H):rNeA (.bl b) (.bl c) H Q:=.inl (r_neB k)
theorem e_str (k:Q (.bl (x == y)) H):rEqA (.str x) (.str y) H Q:=.inl ⟨rfl,by rw [dec_str]; exact k⟩
theorem n_str (k:Q (.bl (!(x == y))) H):rNeA (.str x) (.str y) H Q:=.inl ⟨rfl,by rw [dec_str]; exact k⟩
theorem e_lst {ds es:List Dt} (h1:Den H (.lst ds) u) (h2:Den H (.lst es) v) (hd:depL ds <= 50) (k:Q (.bl (deqL ds es)) H):rEqA u v H Q :=
  .inr ⟨_,_,h1,h2,by simp [dep]; omega,.inr ⟨_,_,rfl,rfl⟩,k⟩
theorem n_lst {ds es:List Dt} (h1:Den H (.lst ds) u) (h2:Den H (.lst es) v) (hd:depL ds <= 50) (k:Q (.bl (!deqL ds es)) H):rNeA u v H Q :=
  .inr ⟨_,_,h1,h2,by simp [dep]; omega,.inr ⟨_,_,rfl,rfl⟩,k⟩
theorem den2 {p:Addr} {a b:Int} (h:H p = some (.tup [.int a,.int b])):Den H (.tup [.int a,.int b]) (.ref p):=⟨p,_,rfl,h,_,_,rfl,rfl,_,_,rfl,rfl,rfl⟩
end
end L2
namespace L2
open PySem PySem.Spec PyProof.Rows
section
variable {X:Cx} {K:PySem.W.Frag} {H H':Hp} {Q:VK} {i j:Int} {σ:St}
noncomputable def rAddS:R2:=fun x y H Q => ∃ i j,x = .str i /\ y = .str j /\ i.length + j.length <= sizeLine /\ Q (.str (i ++ j)) H
theorem op_addS:OpR X (binaryOp .Add) rAddS:=op_add_str
noncomputable def rAddA (K:PySem.W.Frag):R2:=fun x y H Q => rI0 (fun i j => .int (i + j)) x y H Q ∨ rCat x y H Q ∨ rCatT K x y H Q ∨ rAddS x y H Q
theorem op_addA:OpR X (binaryOp .Add) (rAddA X.K):=op_add.or (op_cat.or (op_catT.or op_addS))
theorem a_int (k:Q (.int (i + j)) H):rAddA K (.int i) (.int j) H Q:=.inl (r_I0 k)
theorem a_lst {p q:Addr} {xs ys:List V} (h1:H p = some (.lst xs)) (h2:H q = some (.lst ys)) (hl:xs.length + ys.length <= 1000) (k:∀ l,H l = none -> Q (.ref l) (upd H l (.lst (xs ++ ys)))):rAddA K (.ref p) (.ref q) H Q :=
  .inr (.inl ⟨p,q,xs,ys,rfl,rfl,h1,h2,le_line hl,k⟩)
theorem a_tup {p q:Addr} {xs ys:List V} (h1:H p = some (.tup xs)) (h2:H q = some (.tup ys)) (hl:xs.length + ys.length <= 1000) (hx:xs ≠ []) (hy:ys ≠ []) (k:∀ l,H l = none -> Q (.ref l) (upd H l (.tup (xs ++ ys)))):rAddA K (.ref p) (.ref q) H Q :=
  .inr (.inr (.inl ⟨p,q,xs,ys,rfl,rfl,SqT.of h1,SqT.of h2,hx,le_line hl,fun e => absurd e hy,fun _ => k⟩))
noncomputable def rListOf (K:PySem.W.Frag):List V -> Hp -> VK -> Prop:=fun xs H Q => ∃ p ys,xs = [.ref p] /\ (SqL K H p ys ∨ SqT K H p ys) /\ ∀ l,H l = none -> Q (.ref l) (upd H l (.lst ys))
theorem c_list:CallR X (.type "list") (rListOf X.K):=call_list_of
theorem l_lst {p:Addr} {xs:List V} (h:H p = some (.lst xs)) (k:∀ l,H l = none -> Q (.ref l) (upd H l (.lst xs))):rListOf K [.ref p] H Q:=⟨p,xs,rfl,.inl (SqL.of h),k⟩
noncomputable def rSlA (K:PySem.W.Frag):V -> Option Int -> Option Int -> Hp -> VK -> Prop:=fun x lo hi H Q => rSlL K x lo hi H Q ∨ rSlT K x lo hi H Q
theorem sl_any:SlR X (rSlA X.K):=sl_list.or sl_tup
noncomputable def partK (R:Option Int -> Hp -> Prop):VK:=fun x H1 => ∃ i,x = .int i /\ R (some i) H1
theorem r_part {t:TE} {R:Option Int -> Hp -> Prop} (k:t σ H (partK R)):tPart t σ H R:=k
theorem r_partK {R:Option Int -> Hp -> Prop} (k:R (some i) H):partK R (.int i) H:=⟨i,rfl,k⟩
theorem r_nopart {R:Option Int -> Hp -> Prop} (k:R none H):tNoPart σ H R:=k
theorem r_sl {r:V -> Option Int -> Option Int -> Hp -> VK -> Prop} {te:TE} {tl th:TO} (k:te σ H fun x H1 => tl σ H1 fun l H2 => th σ H2 fun u H3 => r x l u H3 Q):tSl r te tl th σ H Q:=k
theorem s_lst {p:Addr} {xs:List V} {lo hi:Option Int} (h:H p = some (.lst xs)) (k:∀ l,H l = none -> Q (.ref l) (upd H l (.lst (cutV xs lo hi)))):rSlA K (.ref p) lo hi H Q:=.inl ⟨p,xs,rfl,SqL.of h,k⟩
theorem s_tup {p:Addr} {xs:List V} {lo hi:Option Int} (h:H p = some (.tup xs)) (hn:¬ (HT.sIx xs.length 0 lo = 0 /\ HT.sIx xs.length xs.length hi = xs.length)) (k:∀ l,H l = none -> Q (.ref l) (upd H l (.tup (cutV xs lo hi)))):rSlA K (.ref p) lo hi H Q :=
  .inr ⟨p,xs,rfl,SqT.of h,hn,k⟩
theorem upd_old {H:Hp} {q b:Addr} {o u:HO} (hq:H q = none) (h:H b = some u):upd H q o b = some u:=by rw [upd_ne (ne_of_none h hq)]; exact h
theorem pickV {xs:List V} {i:Int} (h0:0 <= i) (h1:i < xs.length):∃ z,z ∈ xs /\ atI xs i = some z:=by
  have hk:i.toNat < xs.length:=by omega
  have ek:i = ((i.toNat:Nat):Int):=by omega
  have q:atI xs ((i.toNat:Nat):Int) = some xs[i.toNat]:=atI_nat (List.getElem?_eq_getElem hk)
  rw [← ek] at q
  exact ⟨xs[i.toNat],List.getElem_mem hk,q⟩
theorem St3.nn {p q:Addr} {n:Int} (h:St3 H p n) (hq:H q = none):q ≠ p:=let ⟨_,_,_,h,_⟩:=h; (ne_of_none h hq).symm
noncomputable def isI:V -> Bool
  | .int _ => true
  | _ => false
theorem flat_ty {v:V} (h:flatV v = true):∃ t b c,TyOf K H v t /\ PySem.W.kitOne K t (.type "int") = some b /\ PySem.W.kitOne K t (.type "bool") = some c /\ (b && !c) = isI v:=by
  cases v with
  | non => exact ⟨_,_,_,.non,kit_NoneType_int,kit_NoneType_bool,rfl⟩
  | bl b => exact ⟨_,_,_,.bl b,kit_bool_int,kit_bool_bool,rfl⟩
  | int b => exact ⟨_,_,_,.int b,kit_int_int,kit_int_bool,rfl⟩
  | str b => exact ⟨_,_,_,.str b,kit_str_int,kit_str_bool,rfl⟩
  | _ => exact absurd (show false = true from h) Bool.false_ne_true
noncomputable def NT (K:PySem.W.Frag) (H:Hp) (x:V):Prop:=∃ t,TyOf K H x t /\ PySem.W.kitOne K t (.type "tuple") = some false
theorem NT.int (i:Int):NT K H (.int i):=⟨_,.int i,kit_int_tuple⟩
theorem NT.non:NT K H .non:=⟨_,.non,kit_NoneType_tuple⟩
theorem NT.str (x:Str):NT K H (.str x):=⟨_,.str x,kit_str_tuple⟩
theorem NT.bl (x:Bool):NT K H (.bl x):=⟨_,.bl x,kit_bool_tuple⟩
theorem NT.lst {p:Addr} {xs:List V} (h:H p = some (.lst xs)):NT K H (.ref p):=⟨_,.lst h,kit_list_tuple⟩
noncomputable def Frq (K:PySem.W.Frag) (H:Hp) (x:V) (r:Bool):Prop :=
  (NT K H x /\ r = false) ∨ (∃ p xs,x = .ref p /\ H p = some (.tup xs) /\ xs.length ≠ 2 /\ r = false) ∨
    ∃ p v w,x = .ref p /\ H p = some (.tup [v,w]) /\ flatV v = true /\ flatV w = true /\ (∀ a b,v = .int a -> w = .int b -> Sm 8000 a /\ Sm 8000 b) /\ r = frV v w
end
end L2
namespace L2
open PySem PySem.Spec PyProof.Rows
noncomputable def cxComp (X:Cx) (scope:Scope) (cl:List (Str×Addr)) (N:List Str) (C:Addr) (s0:Shared) (H0:Hp) (ex:List Addr):Cx :=
  { X with N:=N,s₀:=s0,H₀:=H0,env:=compEnvC scope cl C X.env,outer:=X.stack,stack:=X.stack,ex:=ex,fn:=fun _ => false,pn:=[],xe:=fun _ _ => False }
noncomputable def capsOf (env:Env) (names:List Str):List (Str×Addr):=names.filterMap fun n => (env.cells.lookup n).map fun c => (n,c)
theorem capsOf_sub {env:Env}:∀ {names:List Str} {x:Str} {c:Addr},(capsOf env names).lookup x = some c -> env.cells.lookup x = some c
  | [],x,c,h => by simp [capsOf] at h
  | n :: r,x,c,h => by
    unfold capsOf at h
    rw [List.filterMap_cons] at h
    cases e:env.cells.lookup n with
    | none =>
      rw [e] at h
      exact capsOf_sub (names:=r) h
    | some d =>
      rw [e] at h
      have h':List.lookup x ((n,d) :: capsOf env r) = some c:=h
      rw [List.lookup_cons] at h'
      by_cases hx:x = n
      . subst hx
        rw [beq_self_eq_true] at h'
        cases h'
        exact e
      . rw [beq_eq_false_iff_ne.mpr hx] at h'
        exact capsOf_sub (names:=r) h'
theorem capsOf_has {env:Env}:∀ {names:List Str} {x:Str} {c:Addr},x ∈ names -> env.cells.lookup x = some c -> (capsOf env names).lookup x = some c
  | [],x,c,h,_ => by cases h
  | n :: r,x,c,h,e => by
    unfold capsOf
    rw [List.filterMap_cons]
    by_cases hx:x = n
    . subst hx
      rw [e]
      show List.lookup x ((x,c) :: _) = some c
      rw [List.lookup_cons,beq_self_eq_true]
    . have hr:x ∈ r:=(List.mem_cons.mp h).resolve_left hx
      have ih:=capsOf_has (env:=env) hr e
      cases e2:env.cells.lookup n with
      | none => exact ih
      | some d =>
        show List.lookup x ((n,d) :: capsOf env r) = some c
        rw [List.lookup_cons,beq_eq_false_iff_ne.mpr hx]
        exact ih
noncomputable def capV (σ:St) (is:List Nat):St:=is.map fun i => (σ[i]?).join
noncomputable def compK (te:TE) (tc:Option TT) (g:TG) (ts:St) (caps:St) (Q:VK):It -> Hp -> Prop:=fun J H1 => ∀ acc,H1 acc = none ->
  ∃ W:Nat -> Nat -> List V -> Hp -> Prop,(∃ m,W 0 m [] (upd H1 acc (.lst []))) /\ ∀ i m ys H,W i m ys H ->
    H acc = some (.lst ys) /\ ((J.stop i H /\ Q (.ref acc) H) ∨ (ys.length < sizeLine /\ J.go i H /\ ∀ (us:St) x H',us.length = ts.length -> J.yld i H x H' -> g x (us ++ caps) H' fun σ2 H2 =>
      (∃ us2,us2.length = ts.length /\ σ2 = us2 ++ caps) /\
      let made:=te σ2
      let next:=fun y H3 => H3 acc = some (.lst ys) /\ ∃ m',m' < m /\ W (i + 1) m' (ys ++ [y]) (upd H3 acc (.lst (ys ++ [y])))
      match tc with
      | none => made H2 next
      | some c => c σ2 H2 fun b H3 => if b = true then made H3 next else ∃ m',m' < m /\ W (i + 1) m' ys H3))
noncomputable def tComp (wi:TI) (te:TE) (tc:Option TT) (g:TG) (k:Nat) (is:List Nat):TE:=fun σ H Q => wi σ H (compK te tc g (List.replicate k none) (capV σ is) Q)
section
variable {X:Cx} {scope:Scope} {N tn names:List Str} {is:List Nat} {elt iter tg:Expr} {ifs:List Expr} {pos:Pos} {wi:TI} {te:TE} {tc:Option TT} {g:TG}
structure CompOk (X:Cx) (scope:Scope) (tn names:List Str) (is:List Nat):Prop where
  cls:(∀ x ∈ names,∃ c,X.env.cells.lookup x = some c) -> closureFor scope X.env = pure (capsOf X.env names)
  nocell:∀ y ∈ scope.names,y.2 ≠ .cell
  kind:scope.kind = .function
  nms:∀ y ∈ scope.names,y.2 = .local -> scope.names.lookup y.1 = some .local
  slots:∀ (j i:Nat) (x:Str),is[j]? = some i -> names[j]? = some x -> X.N[i]? = some x
  len:is.length = names.length
  outk:∀ x ∈ names,X.env.kindOf x = some .cell ∨ X.env.kindOf x = some .free
  ink:∀ x ∈ names,(relabel scope X.env).names.lookup x = some .cell ∨ (relabel scope X.env).names.lookup x = some .free
  free:∀ x,((relabel scope X.env).names.lookup x = some .cell ∨ (relabel scope X.env).names.lookup x = some .free) -> x ∈ names
theorem closure_go {env:Env}:∀ (l:List (Str×NameKind)) (acc:List (Str×Addr)),(∀ x ∈ (l.filter fun y => y.2 == .free).map (·.1),∃ c,env.cells.lookup x = some c) ->
    (forIn l acc fun (x:Str×NameKind) (cs:List (Str×Addr)) => (if (x.2 == .free) = true then (do let a ← cellOf env x.1; pure (ForInStep.yield ((x.1,a) :: cs))) else pure (ForInStep.yield cs)):Sem (List (Str×Addr)))
      = pure ((((l.filter fun y => y.2 == .free).map (·.1)).reverse.filterMap fun n => (env.cells.lookup n).map fun c => (n,c)) ++ acc)
  | [],acc,_ => rfl
  | (n,k) :: r,acc,h => by
    rw [List.forIn_cons]
    by_cases hk:(k == NameKind.free) = true
    . have hf:((n,k) :: r).filter (fun y => y.2 == .free) = (n,k) :: r.filter fun y => y.2 == .free:=by rw [List.filter_cons]; exact if_pos hk
      rw [hf] at h ⊢
      obtain ⟨c,e⟩:=h n (by simp)
      have e1:cellOf env n = pure c:=by unfold cellOf; rw [e]
      show (((if (k == NameKind.free) = true then (do let a ← cellOf env n; pure (ForInStep.yield ((n,a) :: acc))) else pure (ForInStep.yield acc)):Sem _) >>= _) = _
      rw [if_pos hk,e1]
      have ih:=closure_go r ((n,c) :: acc) fun x hx => h x (by simp at hx ⊢; exact .inr hx)
      have e2:(((n,k) :: r.filter fun y => y.2 == .free).map (·.1)).reverse.filterMap (fun n => (env.cells.lookup n).map fun c => (n,c)) = ((r.filter fun y => y.2 == .free).map (·.1)).reverse.filterMap (fun n => (env.cells.lookup n).map fun c => (n,c)) ++ [(n,c)]:=by
        rw [List.map_cons,List.reverse_cons,List.filterMap_append,List.filterMap_cons,e]
        rfl
      rw [e2,List.append_assoc]
      exact ih
    . have hf:((n,k) :: r).filter (fun y => y.2 == .free) = r.filter fun y => y.2 == .free:=by rw [List.filter_cons]; exact if_neg hk
      rw [hf] at h ⊢
      show (((if (k == NameKind.free) = true then (do let a ← cellOf env n; pure (ForInStep.yield ((n,a) :: acc))) else pure (ForInStep.yield acc)):Sem _) >>= _) = _
      rw [if_neg hk]
      exact closure_go r acc h
theorem closureFor_caps {scope:Scope} {env:Env} {names:List Str} (hn:((scope.names.filter fun y => y.2 == .free).map (·.1)).reverse = names) (h:∀ x ∈ names,∃ c,env.cells.lookup x = some c) :
    closureFor scope env = pure (capsOf env names):=by
  unfold closureFor capsOf
  have q:=closure_go (env:=env) scope.names [] fun x hx => h x (by rw [← hn]; exact List.mem_reverse.mpr hx)
  rw [hn,List.append_nil] at q
  show (_ >>= fun r => pure r) = _
  have q2:(forIn scope.names ([]:List (Str×Addr)) fun (x:Str×NameKind) (cs:List (Str×Addr)) => match x with
      | (name,kind) => (if (kind == .free) = true then (do let a ← cellOf env name; pure (ForInStep.yield ((name,a) :: cs))) else pure (ForInStep.yield cs)):Sem (List (Str×Addr))) = pure (names.filterMap fun n => (env.cells.lookup n).map fun c => (n,c)):=q
  first
    | exact (congrArg (fun z => z >>= fun r => pure r) q2)
    | simpa using q2
noncomputable def relab (scope sc:Scope):Scope:={ scope with names:=scope.names.map fun (n,k) => if (k == .free && sc.kind == .function && sc.names.lookup n == some .cell) then (n,.cell) else (n,k) }
theorem comp_ck {X:Cx} {scope sc:Scope} {N tn names:List Str} {is:List Nat} (hsc:X.env.scope = sc) (hN:X.N = N) (h1:((scope.names.filter fun y => y.2 == .free).map (·.1)).reverse = names) (h2:∀ y ∈ scope.names,y.2 ≠ .cell) (h3:scope.kind = .function)
    (h4:∀ y ∈ scope.names,y.2 = .local -> scope.names.lookup y.1 = some .local) (h5:(is.map fun i => N[i]?) = names.map some) (h6:∀ x ∈ names,sc.names.lookup x = some .cell ∨ sc.names.lookup x = some .free)
    (h7:∀ x ∈ names,(relab scope sc).names.lookup x = some .cell ∨ (relab scope sc).names.lookup x = some .free) (h8:∀ y ∈ (relab scope sc).names,(y.2 = .cell ∨ y.2 = .free) -> y.1 ∈ names):CompOk X scope tn names is:=by
  subst hsc hN
  have hr:relabel scope X.env = relab scope X.env.scope:=rfl
  refine ⟨closureFor_caps h1,h2,h3,h4,fun j i x e1 e2 => ?_,?_,h6,?_,fun x hx => ?_⟩
  . have q:=congrArg (fun l => l[j]?) h5
    simp only [List.getElem?_map,e1,e2,Option.map_some] at q
    exact Option.some.inj q
  . have q:=congrArg List.length h5
    simpa using q
  . rw [hr]; exact h7
  . rw [hr] at hx
    have mem:∀ {l:List (Str×NameKind)} {k:NameKind},l.lookup x = some k -> (x,k) ∈ l:=fun {l} {k} => by
      induction l with
      | nil => intro e; cases e
      | cons y r ih =>
        intro e
        obtain ⟨n,k'⟩:=y
        rw [List.lookup_cons] at e
        by_cases hx:x = n
        . subst hx
          rw [beq_self_eq_true] at e
          cases e
          exact List.mem_cons_self
        . rw [beq_eq_false_iff_ne.mpr hx] at e
          exact List.mem_cons_of_mem _ (ih e)
    rcases hx with hx | hx
    . exact h8 _ (mem hx) (.inl rfl)
    . exact h8 _ (mem hx) (.inr rfl)
theorem comp_ok {X:Cx} {scope:Scope} {tn names:List Str} {is:List Nat} (C:CompOk X scope tn names is) {pins:List (Addr×Obj)} {σ:St} {H:Hp} {s:Shared} (I:Inv X pins σ H s) {acc:Addr} {fp:List Addr}
    {s3:Shared} {h1:Heap} {t4:Nat} (I3:Inv X pins σ (upd H acc (.lst [])) s3) (hf:∀ b ∈ fp,FpOk X pins H b) (hfl:∀ b ∈ fp,b < s3.heap.objs.size) (hacc:∀ b ∈ fp,b ≠ acc)
    (ns:h1.Ns s3.heap.objs.size fun _ => none) (kp:∀ b o,s3.heap.get? b = some o -> h1.get? b = some o) :
    Inv (cxComp X scope (capsOf X.env names) (tn ++ names) s3.heap.objs.size s3 (upd H acc (.lst [])) fp) [] (List.replicate tn.length none ++ capV σ is) (upd H acc (.lst [])) { s3 with heap:=h1,toks:=t4 }:=by
  have ok:=I3.ok
  have hC:∀ x c,(capsOf X.env names).lookup x = some c -> X.env.cells.lookup x = some c:=fun x c h => capsOf_sub h
  have cellLt:∀ x c,X.env.cells.lookup x = some c -> c < s3.heap.objs.size:=fun x c e => let ⟨v,z⟩:=I3.cell x c e; z.lt
  refine ⟨⟨ok.mod,?_,ok.glob,ok.blt,Nat.le_refl _,fun x y c a b => ok.inj x y c (hC _ _ a) (hC _ _ b),fun x hx => ?_,fun _ _ z => absurd z (by simp [cxComp]),ok.hd,ok.frames,.inl rfl,fun b hb => ?_,fun b o e => I3.bs b o e,Nat.le_trans ok.bsz I3.sz,fun b o e hb => ?_,fun b hb z => ?_,I3.stack,fun b hb => I3.stkFree b hb⟩,
    rfl,I3.bare,Un.kept kp,⟨_,ns,fun i x v e1 e2 e3 => ?_⟩,fun x c e => ?_,?_,fun x c e => I3.freeC x c (hC _ _ e),fun p hp => absurd hp (by simp [cxComp]),I3.hok.kept kp,?_⟩
  . show (relabel scope X.env).kind = .function
    exact C.kind
  . have hm:=C.free x hx
    obtain ⟨c,e⟩:=ok.has x (C.outk x hm)
    exact ⟨c,capsOf_has hm e⟩
  . refine ⟨Nat.ne_of_lt (hfl b hb),fun x c e => (hf b hb).2.2.2.2.1 x c (hC _ _ e)⟩
  . rcases (hf b hb).2.2.2.1 with z | z
    . exact ok.noex b o e z
    . have:=Nat.lt_of_lt_of_le (Heap.lt_size e) ok.bsz
      omega
  . have:=I3.stkSub b z
    rcases List.mem_cons.mp this with q | q
    . exact (hf b hb).2.1 q
    . exact (hf b hb).2.2.1 q
  . by_cases hi:i < tn.length
    . rw [List.getElem?_append_left (by rw [List.length_replicate]; exact hi),List.getElem?_replicate] at e2
      rw [if_pos hi] at e2
      cases e2
    . have e1:(tn ++ names)[i]? = some x:=e1
      rw [List.getElem?_append_right (by omega)] at e1
      rw [List.getElem?_append_right (by rw [List.length_replicate]; omega),List.length_replicate] at e2
      generalize hj:i - tn.length = j at e1 e2
      unfold capV at e2
      rw [List.getElem?_map] at e2
      cases e4:is[j]? with
      | none => rw [e4] at e2; cases e2
      | some i0 =>
        rw [e4] at e2
        have e5:(σ[i0]?).join = some v:=Option.some.inj e2
        have e6:σ[i0]? = some (some v):=by
          cases q:σ[i0]? with
          | none => rw [q] at e5; cases e5
          | some o => rw [q] at e5; exact congrArg some e5
        have hx:x ∈ names:=List.mem_of_getElem? e1
        obtain ⟨m,hm,look⟩:=I3.loc
        have hv:Vis X.env.scope x:=by
          rcases C.outk x hx with q | q
          . exact .inr (.inl q)
          . exact .inr (.inr q)
        obtain ⟨u,ru,lk⟩:=look i0 x v (C.slots j i0 x e4 e1) e6 hv
        refine ⟨u,ru,.inr ⟨C.ink x hx,?_⟩⟩
        rcases lk with ⟨q,_⟩ | ⟨_,c,ec,z⟩
        . rcases C.outk x hx with q' | q' <;> (rw [q] at q'; cases q')
        . exact ⟨c,capsOf_has hx ec,let ⟨o,a,b⟩:=z; ⟨o,kp _ _ a,b⟩⟩
  . obtain ⟨v,o,a,b⟩:=I3.cell x c (hC _ _ e)
    exact ⟨v,o,kp _ _ a,b⟩
  . exact I3.hok.fresh (Nat.le_refl _)
  . show (List.replicate tn.length none ++ capV σ is).length = (tn ++ names).length
    rw [List.length_append,List.length_append,List.length_replicate]
    unfold capV
    rw [List.length_map,C.len]
theorem compLoop_any {prog:Program} {w:World} {A:Around} {R:Result -> Shared -> Prop} {s:Shared} {elt target iter:Expr} {ifs:List Expr} {scope:Scope} {pos:Pos} {it acc:Value} {env:Env} (I:Nat -> Shared -> Prop)
    (turn:∀ n s,I n s -> wpAny (model prog w) A (pyNext it) (fun r s₁ => match r with
      | none => R (.ok .next) s₁
      | some v => wpAny (model prog w) A (letOwnedTupleGo target it v) (fun _ s₁' => wpAny (model prog w) A (assign target env v) (fun _ s₂ =>
          wpAny (model prog w) A (forIn ifs true fun c r => if r = true then do let ok ← isTrue c env (eval c env); pure (ForInStep.yield ok) else pure (ForInStep.yield r)) (fun ok s₃ =>
            if ok = true then wpAny (model prog w) A (eval elt env) (fun x s₄ =>
              wpAny (model prog w) A (call (.builtin "list.append") [acc,x]) (fun _ s₅ => ∃ m,m < n /\ I m s₅) (fun _ _ => False) s₄) (fun _ _ => False) s₃
            else ∃ m,m < n /\ I m s₃) (fun _ _ => False) s₂) (fun _ _ => False) s₁') (fun _ _ => False) s₁) (fun _ _ => False) s)
    (n:Nat) (h:I n s) :
    codeAny (model prog w) A (.compLoop (.ListComp elt [⟨target,iter,ifs,0⟩] scope pos) 0 it acc env) R s:=by
  refine codeAny_loop rfl I (fun n s hI => ?_) n h
  show wpAny _ A ((compTurn (.ListComp elt [⟨target,iter,ifs,0⟩] scope pos) 0 it acc env).onRaise (fun x => do noteFrame x env; theTreesLotGoes x)) _ _ s
  refine wpAny_noted ?_
  rw [compTurn_list]
  refine wpAny_bind (wpAny_standAt (wpAny_bind (wpAny_mono (turn n s hI) (fun r s₁ h₁ => ?_) fun _ _ h' => h'.elim)))
  cases r with
  | none => exact wpAny_pure h₁
  | some v =>
    refine wpAny_bind (wpAny_mono h₁ (fun _ s₁' h₁' => ?_) fun _ _ h' => h'.elim)
    refine wpAny_bind (wpAny_mono h₁' (fun _ s₂ h₂ => wpAny_bind (wpAny_mono h₂ (fun ok s₃ h₃ => ?_) fun _ _ h' => h'.elim)) fun _ _ h' => h'.elim)
    cases ok with
    | false => exact wpAny_pure ⟨rfl,h₃⟩
    | true =>
      exact wpAny_bind (wpAny_bind (wpAny_mono h₃ (fun x s₄ h₄ => wpAny_bind (wpAny_mono h₄ (fun _ s₅ h₅ => wpAny_pure (wpAny_pure ⟨rfl,h₅⟩)) fun _ _ h' => h'.elim)) fun _ _ h' => h'.elim))
noncomputable def PTs (X':Cx) (ifs:List Expr) (tc:Option TT):Prop:=match ifs,tc with
  | [],none => True
  | [c],some t => PT X' c t
  | _,_ => False
theorem pts_none {X':Cx}:PTs X' [] none:=trivial
theorem pts_one {X':Cx} {c:Expr} {t:TT} (h:PT X' c t):PTs X' [c] (some t):=h
structure TurnG (ok:Cx -> Prop) (P:Program) (w:World) (K:PySem.W.Frag) (tg:Expr) (J:It) (fp:List Addr) (it:Addr) (tn:Nat -> Heap -> Prop):Prop where
  mem:it ∈ fp
  obj:∀ i h,tn i h -> ∀ b ∈ fp,∃ o,h.get? b = some o /\ ∀ v,o.data ≠ .cell v
  keep:∀ i h h',tn i h -> (∀ b ∈ fp,∀ o,h.get? b = some o -> h'.get? b = some o) -> tn i h'
  item:∀ (X:Cx),X.prog = P -> X.w = w -> X.K = K -> ok X -> ∀ (i:Nat) (pins:List (Addr×Obj)) (s:Shared) (σ:St) (H:Hp) (E:Value -> Shared -> Prop),Inv X pins σ H s -> (∀ b ∈ fp,FpOk X pins H b) -> tn i s.heap -> J.go i H ->
    wpAny (model P w) X.A (pyNext (.ref it)) (fun r s1 => ∃ u,r = some u /\ wpAny (model P w) X.A (letOwnedTupleGo tg (.ref it) u) (fun _ s2 => ∃ x H',Inv X pins σ H' s2 /\ RelV x u /\ J.yld i H x H' /\ tn (i + 1) s2.heap /\ ∀ b ∈ fp,H' b = none) E s1) E s
  done:∀ (X:Cx),X.prog = P -> X.w = w -> X.K = K -> ok X -> ∀ (i:Nat) (pins:List (Addr×Obj)) (s:Shared) (σ:St) (H:Hp) (E:Value -> Shared -> Prop),Inv X pins σ H s -> (∀ b ∈ fp,FpOk X pins H b) -> tn i s.heap -> J.stop i H ->
    wpAny (model P w) X.A (pyNext (.ref it)) (fun r s1 => r = none /\ Inv X pins σ H s1) E s
  self:∀ (A:Around) (i:Nat) (s:Shared) (Q:Value -> Shared -> Prop) (E:Value -> Shared -> Prop),tn i s.heap -> Q (.ref it) s -> wpAny (model P w) A (pyIter (.ref it)) Q E s
noncomputable def PIEG (ok:Cx -> Prop) (X:Cx) (pins:List (Addr×Obj)) (σ:St) (tg:Expr) (R:It -> Hp -> Prop) (itv:Value) (s2:Shared):Prop :=
  ∃ (it:Addr) (fp:List Addr) (tn:Nat -> Heap -> Prop) (J:It) (H':Hp),itv = .ref it /\ Inv X pins σ H' s2 /\ TurnG ok X.prog X.w X.K tg J fp it tn /\ tn 0 s2.heap /\ (∀ b ∈ fp,FpOk X pins H' b) /\ R J H'
theorem pie_g {X:Cx} {pins:List (Addr×Obj)} {σ:St} {tg:Expr} {R:It -> Hp -> Prop} {itv:Value} {s2:Shared} (h:PIE X pins σ tg R itv s2):PIEG (fun X => X.calm = true) X pins σ tg R itv s2 :=
  let ⟨it,fp,tn,J,H',a,b,T,c,d,e⟩:=h; ⟨it,fp,tn,J,H',a,b,⟨T.mem,T.obj,T.keep,T.item,T.done,T.self⟩,c,d,e⟩
theorem comp_run {X:Cx} {ok:Cx -> Prop} {scope:Scope} {tn names:List Str} {is:List Nat} (ck:CompOk X scope tn names is) (hc:∀ C s0 H0 ex,ok (cxComp X scope (capsOf X.env names) (tn ++ names) C s0 H0 ex)) {elt tg iter:Expr} {ifs:List Expr} {pos:Pos} {te:TE} {tc:Option TT} {g:TG}
    (hg:∀ C s0 H0 ex,PG (cxComp X scope (capsOf X.env names) (tn ++ names) C s0 H0 ex) tg g) (he:∀ C s0 H0 ex,PE (cxComp X scope (capsOf X.env names) (tn ++ names) C s0 H0 ex) elt te)
    (ht:∀ C s0 H0 ex,PTs (cxComp X scope (capsOf X.env names) (tn ++ names) C s0 H0 ex) ifs tc)
    {pins:List (Addr×Obj)} {σ:St} {Q:VK} {s2:Shared} {itv:Value} {E:Value -> Shared -> Prop} (h2:PIEG ok X pins σ tg (compK te tc g (List.replicate tn.length none) (capV σ is) Q) itv s2) {RR:Value -> Addr -> Result -> Shared -> Prop}
    (fin:∀ (acc C:Addr) (H':Hp) (s':Shared) (m:Str -> Option Value),Inv X pins σ H' s' -> s'.heap.Ns C m -> H' C = none -> C ≠ X.env.locals -> (∀ x c,X.env.cells.lookup x = some c -> c ≠ C) -> (∀ p ∈ X.pn ++ pins,p.1 ≠ C) -> X.s₀.heap.objs.size <= C -> Q (.ref acc) H' ->
      RR (.ref acc) C (.ok .next) s') :
    wpAny (model X.prog X.w) X.A (newList []) (fun acc s₃ => wpAny (model X.prog X.w) X.A (newFunctionEnv scope X.env.globals (capsOf X.env names) [] X.env.qual none .none (some X.env)) (fun cenv s₄ =>
      codeAny (model X.prog X.w) X.A (.compStart (.ListComp elt [⟨tg,iter,ifs,0⟩] scope pos) 0 itv acc { cenv with scope:=relabel scope X.env }) (RR acc cenv.locals) s₄) E s₃) E s2:=by
  obtain ⟨it,fp,tnx,J,H2,rfl,I2,T,st2,f2,hK⟩:=h2
  have facc:H2 s2.heap.objs.size = none:=I2.hok.fresh (Nat.le_refl _)
  refine wpAny_newObj_type ?_ (by show 0 <= sizeLine; decide)
  have fpl:∀ b ∈ fp,b < s2.heap.objs.size:=fun b hb => let ⟨o,e,_⟩:=T.obj 0 _ st2 b hb; Heap.lt_size e
  generalize hs3:({ s2 with heap:=s2.heap.push { cls:=.type "list",data:=.seq ([]:List Value).toArray } }:Shared) = s3
  have hsz3:s3.heap.objs.size = s2.heap.objs.size + 1:=by rw [← hs3]; exact Heap.size_push ..
  have keep23:∀ b o,s2.heap.get? b = some o -> s3.heap.get? b = some o:=fun b o e => by rw [← hs3]; exact Heap.get?_push_of_some _ e
  have I3:Inv X pins σ (upd H2 s2.heap.objs.size (.lst [])) s3:=by
    rw [← hs3]
    exact I2.laid (t':=s2.toks) (fun b u e => Heap.get?_push_of_some _ e) (Nat.le_refl _) ⟨Nat.zero_le _,[],0,.nil,Heap.get?_push_size _ rfl⟩
  refine wpAny_newFunctionEnv ck.nocell (by intro y hy; simp at hy) (fun h1 ns sb => ?_) ck.kind
  have kp:∀ b o,s3.heap.get? b = some o -> h1.get? b = some o:=fun b o e => sb.extBut b o (Nat.ne_of_lt (Heap.lt_size e)) (Heap.get?_push_of_some _ e)
  have lt3:∀ b:Addr,b < s2.heap.objs.size -> b < s3.heap.objs.size:=fun b hb => Nat.lt_of_lt_of_le hb (by rw [hsz3]; exact Nat.le_succ _)
  have ns':h1.Ns s3.heap.objs.size fun _ => none:=ns
  have I4:=comp_ok (t4:=s3.toks + ([]:List (Str×Value)).length) ck I2 I3 f2 (fun b hb => lt3 b (fpl b hb)) (fun b hb => Nat.ne_of_lt (fpl b hb)) ns' kp
  generalize hX':cxComp X scope (capsOf X.env names) (tn ++ names) s3.heap.objs.size s3 (upd H2 s2.heap.objs.size (.lst [])) fp = X' at I4
  have hA:X'.A = X.A:=by rw [← hX']; rfl
  have hP:X'.prog = X.prog:=by rw [← hX']; rfl
  have hW:X'.w = X.w:=by rw [← hX']; rfl
  have hKK:X'.K = X.K:=by rw [← hX']; rfl
  have hcm:ok X':=by rw [← hX']; exact hc _ _ _ _
  have hfs:X'.fs = frs X.stack:=by rw [← hX']; rfl
  have hex:X'.ex = fp:=by rw [← hX']; rfl
  have hloc:X'.env.locals = s3.heap.objs.size:=by rw [← hX']; rfl
  have hs0:X'.s₀ = s3:=by rw [← hX']; rfl
  have hH0:X'.H₀ = upd H2 s2.heap.objs.size (.lst []):=by rw [← hX']; rfl
  have hxe:X'.xe = fun _ _ => False:=by rw [← hX']; rfl
  have henv:X'.env = compEnvC scope (capsOf X.env names) s3.heap.objs.size X.env:=by rw [← hX']; rfl
  have hg':PG X' tg g:=by rw [← hX']; exact hg _ _ _ _
  have he':PE X' elt te:=by rw [← hX']; exact he _ _ _ _
  have ht':PTs X' ifs tc:=by rw [← hX']; exact ht _ _ _ _
  have cells':∀ x c,X'.env.cells.lookup x = some c -> X.env.cells.lookup x = some c:=fun x c e => by rw [henv] at e; exact capsOf_sub e
  obtain ⟨W,⟨m0,w0⟩,turn⟩:=hK _ facc
  have stat:∀ {H':Hp},(∀ b ∈ fp,H' b = none) -> ∀ b ∈ fp,FpOk X' [] H' b:=fun {H'} hn b hb => by
    refine ⟨hn b hb,?_,?_,.inl (by rw [hex]; exact hb),fun x c e => (f2 b hb).2.2.2.2.1 x c (cells' x c e),fun p hp => ?_⟩
    . rw [hloc]; exact Nat.ne_of_lt (lt3 b (fpl b hb))
    . rw [hfs]
      intro z
      rcases List.mem_cons.mp (I2.stkSub b z) with q | q
      . exact (f2 b hb).2.1 q
      . exact (f2 b hb).2.2.1 q
    . rw [← hX'] at hp
      exact absurd hp (by simp [cxComp])
  have loop:∀ s4:Shared,Inv X' [] (List.replicate tn.length none ++ capV σ is) (upd H2 s2.heap.objs.size (.lst [])) s4 -> tnx 0 s4.heap ->
      codeAny (model X.prog X.w) X.A (.compLoop (.ListComp elt [⟨tg,iter,ifs,0⟩] scope pos) 0 (.ref it) (.ref s2.heap.objs.size) X'.env) (RR (.ref s2.heap.objs.size) s3.heap.objs.size) s4:=by
    intro s4 J4 st4
    refine compLoop_any (fun n s' => ∃ i ys ts H',Inv X' [] (ts ++ capV σ is) H' s' /\ ts.length = tn.length /\ tnx i s'.heap /\ (∀ b ∈ fp,H' b = none) /\ W i n ys H') ?_ m0
      ⟨0,[],_,_,J4,List.length_replicate ..,st4,fun b hb => by rw [upd_ne (Nat.ne_of_lt (fpl b hb))]; exact (f2 b hb).1,w0⟩
    rintro n s5 ⟨i,ys,ts,H5,I5,hts,st5,fr5,w5⟩
    obtain ⟨hacc5,hcase⟩:=turn i n ys H5 w5
    have hrun:∀ {α:Type} {m:Sem α} {Q':α -> Shared -> Prop} {s':Shared},wpAny (model X'.prog X'.w) X'.A m Q' (fun _ _ => False) s' -> wpAny (model X.prog X.w) X.A m Q' (fun _ _ => False) s':=fun {α m Q' s'} z => by
      rw [hP,hW,hA] at z; exact z
    rcases hcase with ⟨stop,qn⟩ | ⟨hlen,go,step⟩
    . have z:=T.done X' hP hW hKK hcm i [] s5 _ H5 (fun _ _ => False) I5 (stat fr5) st5 stop
      rw [hA] at z
      refine thn z fun r s6 ⟨hr,I6⟩ => ?_
      subst hr
      -- the frame around,behind the block
      have u23:Un (frs X.stack) fp H2 (upd H2 s2.heap.objs.size (.lst [])) s2.heap s3.heap:=Un.laid keep23 (Nat.le_refl _) facc
      have u36:Un (frs X.stack) fp (upd H2 s2.heap.objs.size (.lst [])) H5 s3.heap s6.heap:=by
        have b:=I6.base
        rw [hfs,hex,hs0,hH0] at b
        exact b
      have hos:s6.os = s2.os:=by
        have b:=I6.os
        rw [hs0,← hs3] at b
        exact b
      have IO:Inv X pins σ H5 s6:=I2.call' hos (u23.trans u36) (by have b:=I6.hok; rw [hP,hW] at b; exact b) I6.bare fun b hb => by
        obtain ⟨_,f1,f2',f3,f4,f5⟩:=f2 b hb
        exact ⟨f3,f1,fun x c e => f4 x c e,fun p hp => f5 p hp⟩
      obtain ⟨m,hm,_⟩:=I6.loc
      rw [hloc] at hm
      have fC:H5 s3.heap.objs.size = none:=by have b:=I6.free; rw [hloc] at b; exact b
      refine fin _ _ H5 s6 m IO hm fC ?_ (fun x c e => ?_) (fun p hp => ?_) ?_ qn
      . exact Nat.ne_of_gt (Nat.lt_of_lt_of_le I2.lt (by omega))
      . obtain ⟨v,z⟩:=I2.cell x c e
        exact Nat.ne_of_lt (lt3 c z.lt)
      . exact Nat.ne_of_lt (lt3 p.1 (Heap.lt_size (I2.pin p hp).1))
      . exact Nat.le_trans I2.sz (by omega)
    . have z:=T.item X' hP hW hKK hcm i [] s5 _ H5 (fun _ _ => False) I5 (stat fr5) st5 go
      rw [hA] at z
      refine thn z fun r s6 ⟨u,hr,h6⟩ => ?_
      subst hr
      refine thn h6 fun _ s7 ⟨x,H7,I7,r7,y7,st7,fr7⟩ => ?_
      have I7':=I7.pinned (stat fr7) (T.obj _ _ st7)
      have zg:=hg' _ s7 _ H7 x u _ I7' r7 (step ts x H7 (by rw [hts,List.length_replicate]) y7)
      rw [hxe] at zg
      refine thn (hrun zg) fun _ s8 ⟨σ8,H8,I8,⟨us2,hus,e8⟩,q8⟩ => ?_
      subst e8
      rw [List.length_replicate] at hus
      have back:∀ {s9:Shared} {H9:Hp},Inv X' ([] ++ pinsAt fp s7.heap) (us2 ++ capV σ is) H9 s9 -> tnx (i + 1) s9.heap /\ ∀ b ∈ fp,H9 b = none:=fun {s9 H9} I9 => by
        refine ⟨T.keep _ _ _ st7 fun b hb o e => (I9.pin (b,o) (List.mem_append_right _ (List.mem_append_right _ (mem_pinsAt hb e)))).1,fun b hb => ?_⟩
        obtain ⟨o,e,d⟩:=T.obj _ _ st7 b hb
        exact (I9.pin (b,o) (List.mem_append_right _ (List.mem_append_right _ (mem_pinsAt hb e)))).2.1
      have made:∀ {s9:Shared} {H9:Hp},Inv X' ([] ++ pinsAt fp s7.heap) (us2 ++ capV σ is) H9 s9 -> te (us2 ++ capV σ is) H9 (fun y H3 => H3 s2.heap.objs.size = some (.lst ys) /\ ∃ m',m' < n /\ W (i + 1) m' (ys ++ [y]) (upd H3 s2.heap.objs.size (.lst (ys ++ [y])))) ->
          wpAny (model X.prog X.w) X.A (eval elt X'.env) (fun x s₄ => wpAny (model X.prog X.w) X.A (call (.builtin "list.append") [.ref s2.heap.objs.size,x]) (fun _ s₅ => ∃ m,m < n /\ ∃ i ys ts H',Inv X' [] (ts ++ capV σ is) H' s₅ /\ ts.length = tn.length /\ tnx i s₅.heap /\ (∀ b ∈ fp,H' b = none) /\ W i m ys H') (fun _ _ => False) s₄) (fun _ _ => False) s9:=fun {s9 H9} I9 q9 => by
        have ze:=he' _ s9 _ H9 _ I9 q9
        rw [hxe] at ze
        refine thn (hrun ze) fun y s10 ⟨yv,H10,I10,ry,ha10,m',hm',w10⟩ => ?_
        have za:=(mt_append (X:=X')) ([] ++ pinsAt fp s7.heap) s10 (us2 ++ capV σ is) H10 (.ref s2.heap.objs.size) [yv] (.ref s2.heap.objs.size) [y] (fun v H' => v = .non /\ H' = upd H10 s2.heap.objs.size (.lst (ys ++ [yv]))) I10 rfl (.cons ry .nil)
          ⟨_,ys,yv,rfl,rfl,ha10,hlen,rfl,rfl⟩
        rw [hxe] at za
        refine thn (hrun za) fun _ s11 ⟨_,H11,I11,_,_,e11⟩ => ?_
        subst e11
        obtain ⟨b1,b2⟩:=back I11
        exact ⟨m',hm',i + 1,_,us2,_,I11.unpinned,hus,b1,b2,w10⟩
      cases ifs with
      | nil =>
        cases tc with
        | some t => exact ht'.elim
        | none => exact wpAny_tests_nil (by rw [if_pos rfl]; exact made I8 q8)
      | cons c0 rest =>
        cases rest with
        | cons _ _ => cases tc <;> exact ht'.elim
        | nil =>
          cases tc with
          | none => exact ht'.elim
          | some t =>
            have zt:=(show PT X' c0 t from ht') _ s8 _ H8 _ I8 q8
            rw [hxe] at zt
            refine wpAny_tests_one (thn (hrun zt) fun ok s9 ⟨H9,I9,q9⟩ => ?_)
            cases ok with
            | true => rw [if_pos rfl]; rw [if_pos rfl] at q9; exact made I9 q9
            | false =>
              rw [if_neg Bool.false_ne_true]
              rw [if_neg Bool.false_ne_true] at q9
              obtain ⟨m',hm',w9⟩:=q9
              obtain ⟨b1,b2⟩:=back I9
              exact ⟨m',hm',i + 1,_,us2,_,I9.unpinned,hus,b1,b2,w9⟩
  have st4:tnx 0 h1:=T.keep _ _ _ st2 fun b hb o e => kp b o (keep23 b o e)
  have goal0:=loop _ I4 st4
  rw [henv] at goal0
  refine codeAny_compStart_list goal0 (T.self X.A 0 _ _ _ st4 goal0)
theorem pe_comp (ck:CompOk X scope tn names is) (hc:X.calm = true) (hi:PI X tg iter wi)
    (hg:∀ C s0 H0 ex,PG (cxComp X scope (capsOf X.env names) (tn ++ names) C s0 H0 ex) tg g) (he:∀ C s0 H0 ex,PE (cxComp X scope (capsOf X.env names) (tn ++ names) C s0 H0 ex) elt te)
    (ht:∀ C s0 H0 ex,PTs (cxComp X scope (capsOf X.env names) (tn ++ names) C s0 H0 ex) ifs tc) (hs:∀ x,foldedSetIterable iter X.env x = pure x:=by intro _; rfl) :
    PE X (.ListComp elt [⟨tg,iter,ifs,0⟩] scope pos) (tComp wi te tc g tn.length is):=by
  intro pins s σ H Q I h
  rw [eval_ListComp]
  refine wpAny_comprehension_free (use:=none) rfl hs (ck.cls fun x hx => I.ok.has x (ck.outk x hx)) ck.kind ck.nms (thn (hi pins s σ H _ I h) fun v s1 h1 => thn h1 fun itv s2 h2 => ?_)
  refine comp_run (RR:=fun acc C => compPost (model X.prog X.w) X.A X.xe none (EP X pins σ Q) acc C) (ok:=fun X => X.calm = true) ck (fun _ _ _ _ => hc) hg he ht (pie_g h2) fun acc C H' s' m I' hn hC hL hcl hpn hsz q => ?_
  refine ⟨m,hn,fun h' sb => ⟨.ref acc,H',?_,rfl,q⟩⟩
  exact I'.turned (t':=s'.toks) (fun b o hb e => sb.extBut b o hb e) hC hL (.inr hsz) hcl hpn
theorem ps_setC {i:Nat} {x:Str} {pos' spos:Pos} (hN:X.N.Nodup) (hi':X.N[i]? = some x) (hx:Loc X.env.scope x) (ck:CompOk X scope tn names is) (hc:X.calm = true) (hi:PI X tg iter wi)
    (hg:∀ C s0 H0 ex,PG (cxComp X scope (capsOf X.env names) (tn ++ names) C s0 H0 ex) tg g) (he:∀ C s0 H0 ex,PE (cxComp X scope (capsOf X.env names) (tn ++ names) C s0 H0 ex) elt te)
    (ht:∀ C s0 H0 ex,PTs (cxComp X scope (capsOf X.env names) (tn ++ names) C s0 H0 ex) ifs tc) (hs:∀ x,foldedSetIterable iter X.env x = pure x:=by intro _; rfl)
    (hsw:swapsWith (.ListComp elt [⟨tg,iter,ifs,0⟩] scope pos) (some (.Name x pos')) spos.line X.env = pure true:=by rfl) (hf:X.fn x = true ∨ X.env.scope.names.lookup x = some .local:=by first | exact .inl rfl | exact .inr rfl | assumption) :
    PS X (.Assign [.Name x pos'] (.ListComp elt [⟨tg,iter,ifs,0⟩] scope pos) spos) (tAsg (tComp wi te tc g tn.length is) (gName i)):=by
  intro pins s σ H D I h
  rw [exec_Assign_Name_used _ _ _ _ hsw]
  refine wpAny_bind (wpAny_standAt (wpAny_bind ?_))
  show wpAny _ X.A (do let _ ← comprehension (.ListComp elt [⟨tg,iter,ifs,0⟩] scope pos) scope X.env _ (newList []) false (eval iter X.env) (some (assign (.Name x pos') X.env))) _ _ s
  refine wpAny_bind (wpAny_mono (wpAny_comprehension_free (use:=some (assign (.Name x pos') X.env)) (Q:=fun _ s' => SP X pins D .next s') rfl hs (ck.cls fun x hx => I.ok.has x (ck.outk x hx)) ck.kind ck.nms
    (thn (hi pins s σ H _ I h) fun v s1 h1 => thn h1 fun itv s2 h2 => ?_)) (fun _ s' hq => wpAny_pure (wpAny_pure hq)) fun _ _ e => e)
  refine comp_run (RR:=fun acc C => compPost (model X.prog X.w) X.A X.xe (some (assign (.Name x pos') X.env)) (fun _ s' => SP X pins D .next s') acc C) (ok:=fun X => X.calm = true) ck (fun _ _ _ _ => hc) hg he ht (pie_g h2) fun acc C H' s' m I' hn hC hL hcl hpn hsz q => ?_
  show wpAny _ X.A (assign (.Name x pos') X.env (.ref acc)) _ _ s'
  refine wpAny_assign_Name (store_ok2 I' hN hi' hx (v:=.ref acc) rfl (fun s'' I'' sb => ?_) hf)
  obtain ⟨a,sb,ha⟩:=sb
  have hne:C ≠ a:=by
    rcases ha with rfl | ha
    . exact hL
    . exact fun z => hcl x a ha z.symm
  refine ⟨m,hn.sameBut sb hne,fun h' sb' => ⟨_,H',I''.turned (t':=s''.toks) (fun b o hb e => sb'.extBut b o hb e) hC hL (.inr hsz) hcl hpn,q⟩⟩
end
section
variable {te:TE} {Q:VK} {H:Hp} {σ caps:St} {wi:TI} {tc:TT} {K:PySem.W.Frag}
theorem r_comp {o:Option TT} {g:TG} {k:Nat} {is:List Nat} (h:wi σ H (compK te o g (List.replicate k none) (capV σ is) Q)):tComp wi te o g k is σ H Q:=h
theorem len1 {us:St} (h:us.length = 1):∃ o,us = [o]:=by
  cases us with
  | nil => cases h
  | cons o r =>
    cases r with
    | nil => exact ⟨o,rfl⟩
    | cons _ _ => simp at h
noncomputable def cW (n:Nat) (acc:Addr) (Pv:Nat -> List V -> Hp -> Prop):Nat -> Nat -> List V -> Hp -> Prop:=fun i m ys H1 => m = n - i /\ i <= n /\ ys.length = i /\ H1 acc = some (.lst ys) /\ Pv i ys H1
noncomputable def cNext (n:Nat) (acc:Addr) (Pv:Nat -> List V -> Hp -> Prop) (ys:List V) (i:Nat):VK:=fun y H3 => H3 acc = some (.lst ys) /\ ∃ m',m' < n - i /\ cW n acc Pv (i + 1) m' (ys ++ [y]) (upd H3 acc (.lst (ys ++ [y])))
theorem c_next {n:Nat} {acc:Addr} {Pv:Nat -> List V -> Hp -> Prop} {ys:List V} {i:Nat} {y:V} {H3:Hp} (hlt:i < n) (hl:ys.length = i) (ha:H3 acc = some (.lst ys)) (p:Pv (i + 1) (ys ++ [y]) (upd H3 acc (.lst (ys ++ [y])))):cNext n acc Pv ys i y H3 :=
  ⟨ha,n - (i + 1),by omega,rfl,hlt,by rw [List.length_append,hl]; rfl,upd_same,p⟩
theorem r_compR {lo:Int} {n:Nat} (hn:n <= 1000) (Pv:Addr -> Nat -> List V -> Hp -> Prop) (h0:∀ acc,H acc = none -> Pv acc 0 [] (upd H acc (.lst [])))
    (hs:∀ acc i ys H1,H acc = none -> i < n -> ys.length = i -> H1 acc = some (.lst ys) -> Pv acc i ys H1 -> te (some (.int (lo + i)) :: caps) H1 (cNext n acc (Pv acc) ys i))
    (hd:∀ acc ys H1,H acc = none -> H1 acc = some (.lst ys) -> ys.length = n -> Pv acc n ys H1 -> Q (.ref acc) H1):compK te none (gName 0) (List.replicate 1 none) caps Q (Itr lo n) H:=by
  intro acc hacc
  refine ⟨cW n acc (Pv acc),⟨n,by simp,Nat.zero_le _,rfl,upd_same,h0 acc hacc⟩,?_⟩
  rintro i m ys H1 ⟨rfl,hi,hl,ha,p⟩
  refine ⟨ha,?_⟩
  by_cases hlt:i < n
  . refine .inr ⟨small1000 (by omega),hlt,fun us x H' hu y => ?_⟩
    obtain ⟨e,y⟩:=y
    subst e y
    obtain ⟨o,rfl⟩:=len1 hu
    exact ⟨⟨[some (.int (lo + i))],rfl,rfl⟩,hs acc i ys _ hacc hlt hl ha p⟩
  . have e:i = n:=by omega
    subst e
    exact .inl ⟨Nat.le_refl _,hd acc ys H1 hacc ha hl p⟩
theorem r_compL {a:Addr} {xs:List V} (hn:xs.length <= 1000) (Pv:Addr -> Nat -> List V -> Hp -> Prop) (h0:∀ acc,H acc = none -> Pv acc 0 [] (upd H acc (.lst []))) (hl':∀ acc i ys H1,H acc = none -> i <= xs.length -> Pv acc i ys H1 -> SqL K H1 a xs)
    (hs:∀ acc i ys H1 x,H acc = none -> xs[i]? = some x -> ys.length = i -> H1 acc = some (.lst ys) -> Pv acc i ys H1 -> te (some x :: caps) H1 (cNext xs.length acc (Pv acc) ys i))
    (hd:∀ acc ys H1,H acc = none -> H1 acc = some (.lst ys) -> ys.length = xs.length -> Pv acc xs.length ys H1 -> Q (.ref acc) H1):compK te none (gName 0) (List.replicate 1 none) caps Q (Itl K a) H:=by
  intro acc hacc
  refine ⟨cW xs.length acc (Pv acc),⟨xs.length,by simp,Nat.zero_le _,rfl,upd_same,h0 acc hacc⟩,?_⟩
  rintro i m ys H1 ⟨rfl,hi,hl,ha,p⟩
  have q:=hl' acc i ys H1 hacc hi p
  refine ⟨ha,?_⟩
  by_cases hlt:i < xs.length
  . refine .inr ⟨small1000 (by omega),⟨xs,xs[i],q,by simp [hlt]⟩,fun us x H' hu y => ?_⟩
    obtain ⟨e,y⟩:=y
    subst e
    obtain ⟨o,rfl⟩:=len1 hu
    exact ⟨⟨[some x],rfl,rfl⟩,hs acc i ys _ x hacc (y xs q) hl ha p⟩
  . have e:i = xs.length:=by omega
    subst e
    exact .inl ⟨⟨xs,q,Nat.le_refl _⟩,hd acc ys H1 hacc ha hl p⟩
end
end L2
namespace L2
open PySem
section
variable {H:Hp} {Q:VK} {u v:V} {a b c d:Int} {m n:Nat} {K:PySem.W.Frag}
end
end L2
namespace L2
theorem rat_of {t b f g:Int} (hb:b ≠ 0) (hg:0 < g) (hc:Int.gcd f g = 1) (e:f * b = t * g):(Rat.divInt t b).num = f /\ ((Rat.divInt t b).den:Int) = g:=by
  obtain ⟨n,rfl⟩:∃ n:Nat,g = n:=⟨g.toNat,by omega⟩
  have h1:Rat.divInt t b = Rat.divInt f n:=(Rat.divInt_eq_divInt_iff hb (by omega)).mpr e.symm
  have h2:Rat.divInt f n = Rat.mk' f n (by omega) hc:=Rat.num_divInt_den (Rat.mk' f n (by omega) hc)
  rw [h1,h2]
  exact ⟨rfl,rfl⟩
theorem dvd_cop' {k n m:Int} (h:k ∣ n * m) (g:Int.gcd k n = 1):k ∣ m:=by
  have q:=Int.dvd_gcd_mul_iff_dvd_mul.mpr h
  rw [g] at q
  simpa using q
noncomputable def Sz (n:Nat) (q:Rat):Prop:=q.num.natAbs < 2 ^ n /\ q.den < 2 ^ n
theorem Sz.mono {m n:Nat} {q:Rat} (h:Sz m q) (l:m <= n):Sz n q :=
  have:=Nat.pow_le_pow_right (n:=2) (by decide) l
  ⟨Nat.lt_of_lt_of_le h.1 this,Nat.lt_of_lt_of_le h.2 this⟩
theorem Sz.divInt {t b:Int} {n:Nat} (hb:b ≠ 0) (ht:t.natAbs < 2 ^ n) (hs:b.natAbs < 2 ^ n):Sz n (Rat.divInt t b):=by
  have e:Rat.divInt (Rat.divInt t b).num (Rat.divInt t b).den = Rat.divInt t b:=Rat.num_divInt_den _
  have hd:((Rat.divInt t b).den:Int) ≠ 0:=by have:=(Rat.divInt t b).den_pos; omega
  rw [Rat.divInt_eq_divInt_iff hd hb] at e
  generalize hq:Rat.divInt t b = q at *
  -- num * b = t * den,lowest
  have hc:Int.gcd q.num q.den = 1:=q.reduced
  have h1:(q.den:Int) ∣ b:=dvd_cop' (k:=q.den) (n:=q.num) ⟨t,by rw [e,Int.mul_comm]⟩ (by rw [Int.gcd_comm]; exact hc)
  obtain ⟨m,em⟩:=h1
  have e2:t = q.num * m:=by
    have:t * q.den = (q.num * m) * q.den:=by rw [← e,em]; grind
    exact Int.eq_of_mul_eq_mul_right hd this
  have m0:m ≠ 0:=by rintro rfl; simp at em; exact hb em
  have hm:1 <= m.natAbs:=by omega
  constructor
  . refine Nat.lt_of_le_of_lt ?_ ht
    rw [e2,Int.natAbs_mul]
    exact Nat.le_mul_of_pos_right _ hm
  . refine Nat.lt_of_le_of_lt ?_ hs
    rw [em,Int.natAbs_mul]
    have:(q.den:Int).natAbs = q.den:=by omega
    rw [this]
    exact Nat.le_mul_of_pos_right _ hm
theorem add_divInt (q r:Rat):q + r = Rat.divInt (q.num * r.den + r.num * q.den) (q.den * r.den):=by
  have h1:(q.den:Int) ≠ 0:=by have:=q.den_pos; omega
  have h2:(r.den:Int) ≠ 0:=by have:=r.den_pos; omega
  have:=Rat.divInt_add_divInt q.num r.num h1 h2
  rw [Rat.num_divInt_den,Rat.num_divInt_den] at this
  exact this
theorem pow_lt2 {x y m n:Nat} (h1:x < 2 ^ m) (h2:y < 2 ^ n):x * y < 2 ^ (m + n):=by
  rw [Nat.pow_add]
  exact Nat.mul_lt_mul'' h1 h2
theorem Sz.add {m n:Nat} {q r:Rat} (h1:Sz m q) (h2:Sz n r):Sz (m + n + 1) (q + r):=by
  rw [add_divInt]
  have h3:=q.den_pos
  have h4:=r.den_pos
  refine Sz.divInt (Int.ne_of_gt (Int.mul_pos (by omega) (by omega))) ?_ ?_
  . have a1:=pow_lt2 h1.1 h2.2
    have a2:=pow_lt2 h2.1 h1.2
    have e1:(q.num * r.den).natAbs = q.num.natAbs * r.den:=by rw [Int.natAbs_mul]; rfl
    have e2:(r.num * q.den).natAbs = r.num.natAbs * q.den:=by rw [Int.natAbs_mul]; rfl
    rw [Nat.add_comm n m] at a2
    rw [Nat.pow_succ]
    omega
  . have a1:=pow_lt2 h1.2 h2.2
    have e1:((q.den:Int) * r.den).natAbs = q.den * r.den:=by rw [Int.natAbs_mul]; rfl
    rw [Nat.pow_succ]
    omega
theorem Sz.neg {n:Nat} {q:Rat} (h:Sz n q):Sz n (-q):=⟨by rw [Rat.neg_num,Int.natAbs_neg]; exact h.1,h.2⟩
theorem Sz.sub {m n:Nat} {q r:Rat} (h1:Sz m q) (h2:Sz n r):Sz (m + n + 1) (q - r):=by
  rw [Rat.sub_eq_add_neg]
  exact h1.add h2.neg
end L2
namespace L2
noncomputable def Bd (D M:Nat) (q:Rat):Prop:=q.den ∣ D /\ -((M:Nat):Rat) <= q /\ q <= ((M:Nat):Rat)
theorem le_mul1 {a b:Int} (ha:0 <= a) (hb:1 <= b):a <= a * b:=by
  have:=Int.mul_le_mul_of_nonneg_left hb ha
  omega
theorem den_dvd {t b:Int} (hb:b ≠ 0):((Rat.divInt t b).den:Int) ∣ b:=by
  have e:Rat.divInt (Rat.divInt t b).num (Rat.divInt t b).den = Rat.divInt t b:=Rat.num_divInt_den _
  have hd:((Rat.divInt t b).den:Int) ≠ 0:=by have:=(Rat.divInt t b).den_pos; omega
  rw [Rat.divInt_eq_divInt_iff hd hb] at e
  have hc:Int.gcd (Rat.divInt t b).num (Rat.divInt t b).den = 1:=(Rat.divInt t b).reduced
  exact dvd_cop' (n:=(Rat.divInt t b).num) ⟨t,by rw [e,Int.mul_comm]⟩ (by rw [Int.gcd_comm]; exact hc)
theorem over {D:Nat} {q:Rat} (h:q.den ∣ D) (hD:D ≠ 0):∃ a:Int,q = Rat.divInt a D:=by
  obtain ⟨m,e⟩:=h
  refine ⟨q.num * m,?_⟩
  have hq:=q.den_pos
  have e1:Rat.divInt (q.num * m) D = Rat.divInt q.num q.den:=by
    rw [Rat.divInt_eq_divInt_iff (by omega) (by omega),e]
    push_cast
    grind
  rw [e1,Rat.num_divInt_den]
theorem den_add {D:Nat} {q r:Rat} (hD:D ≠ 0) (h1:q.den ∣ D) (h2:r.den ∣ D):(q + r).den ∣ D:=by
  obtain ⟨a,rfl⟩:=over h1 hD
  obtain ⟨b,rfl⟩:=over h2 hD
  rw [Rat.divInt_add_divInt a b (by omega) (by omega)]
  have e:Rat.divInt (a * D + b * D) (D * D) = Rat.divInt (a + b) D:=by
    rw [Rat.divInt_eq_divInt_iff (Int.mul_ne_zero (by omega) (by omega)) (by omega)]
    grind
  rw [e]
  exact Int.natCast_dvd_natCast.mp (den_dvd (by omega))
theorem Bd.add {D M N:Nat} {q r:Rat} (hD:D ≠ 0) (h1:Bd D M q) (h2:Bd D N r):Bd D (M + N) (q + r):=by
  obtain ⟨a1,a2,a3⟩:=h1
  obtain ⟨b1,b2,b3⟩:=h2
  refine ⟨den_add hD a1 b1,?_,?_⟩
  . have e:(((M + N:Nat)):Rat) = (M:Rat) + (N:Rat):=by push_cast; rfl
    rw [e]
    grind
  . have e:(((M + N:Nat)):Rat) = (M:Rat) + (N:Rat):=by push_cast; rfl
    rw [e]
    grind
theorem Bd.mono {D M N:Nat} {q:Rat} (h:Bd D M q) (l:M <= N):Bd D N q:=by
  obtain ⟨a1,a2,a3⟩:=h
  have e:(M:Rat) <= (N:Rat):=by
    rw [Rat.le_iff]
    simp
    omega
  exact ⟨a1,by grind,by grind⟩
theorem Bd.sz {D M n:Nat} {q:Rat} (h:Bd D M q) (hD:D ≠ 0) (h1:D < 2 ^ n) (h2:M * D < 2 ^ n):Sz n q:=by
  obtain ⟨a1,a2,a3⟩:=h
  have hle:=Nat.le_of_dvd (by omega) a1
  have k1:q.num <= M * q.den:=by
    have:=(Rat.le_iff q (M:Rat)).mp a3
    simpa using this
  have k2:-(M * q.den:Int) <= q.num:=by
    have:=(Rat.le_iff (-(M:Rat)) q).mp a2
    have e1:(-(M:Rat)).num = -(M:Int):=by rw [Rat.neg_num]; simp
    have e2:(-(M:Rat)).den = 1:=by rw [Rat.neg_den]; simp
    rw [e1,e2] at this
    simp at this
    have e3:-(M:Int) * q.den = -((M:Int) * q.den):=by grind
    omega
  refine ⟨?_,by omega⟩
  have k3:M * q.den <= M * D:=Nat.mul_le_mul_left _ hle
  have k4:((M * q.den:Nat):Int) = (M:Int) * q.den:=by push_cast; rfl
  omega
theorem Bd.of {q:Rat} {M:Nat} (h:q.num.natAbs <= M):Bd q.den M q:=by
  have hp:=q.den_pos
  refine ⟨Nat.dvd_refl _,?_,?_⟩
  . rw [Rat.le_iff]
    have e1:(-(M:Rat)).num = -(M:Int):=by rw [Rat.neg_num]; simp
    have e2:(-(M:Rat)).den = 1:=by rw [Rat.neg_den]; simp
    rw [e1,e2]
    have:(M:Int) <= (M:Int) * q.den:=le_mul1 (by omega) (by omega)
    have e3:-(M:Int) * q.den = -((M:Int) * q.den):=by grind
    simp
    omega
  . rw [Rat.le_iff]
    have:(M:Int) <= (M:Int) * q.den:=le_mul1 (by omega) (by omega)
    simp
    omega
end L2
namespace L2
open PySem
noncomputable def Ris (xs:Array Nat):Prop:=xs.toList.Pairwise (· < ·)
theorem Ris.lt {xs:Array Nat} (h:Ris xs) {i j:Nat} (hij:i < j) (hj:j < xs.size):xs[i]'(Nat.lt_trans hij hj) < xs[j]:=by
  have:=List.pairwise_iff_getElem.mp h i j (by simpa using Nat.lt_trans hij hj) (by simpa using hj) hij
  simpa using this
theorem Ris.le {xs:Array Nat} (h:Ris xs) {i j:Nat} (hij:i <= j) (hj:j < xs.size):xs[i]'(Nat.lt_of_le_of_lt hij hj) <= xs[j]:=by
  rcases Nat.lt_or_eq_of_le hij with h1 | h1
  . exact Nat.le_of_lt (h.lt h1 hj)
  . subst h1
    exact Nat.le_refl _
noncomputable def Tb (w:World) (t:SetTable) (_n:Nat):Prop:=t.led = !(w.params.followText "set-order") /\ Ris t.place /\ t.dummies = #[]
section
variable {prog:Program} {w:World} {K:Type} [DecidableEq K] {knd:KeyKind prog w K} {A:Around} {E:Value -> Shared -> Prop} {s:Shared}
end
end L2
namespace L2
open PySem
section
variable {prog:Program} {w:World} {A:Around} {E:Value -> Shared -> Prop} {s:Shared}
end
end L2
namespace L2
open PySem
noncomputable def setObj (es:Array (Int×Value)) (ep:Nat) (t:SetTable):Obj:={ cls:=.type "set",dict:=none,data:=.set es ep t,slots:=#[] }
noncomputable def IsSI (h:Heap) (it:Addr) (first:Value) (i:Nat) (a:Addr) (n ep:Nat):Prop :=
  ∃ o,h.get? it = some o /\ o.cls = .type "set_iterator" /\ o.data = .fields #[first,.int i 0,.ref a,.int n 0,.int ep 0]
theorem IsSI.typeIs {s:Shared} {it a:Addr} {first:Value} {i n ep:Nat} (x:IsSI s.heap it first i a n ep):s.TypeIs (.ref it) "set_iterator":=let ⟨o,ho,hc,_⟩:=x; ⟨o,ho,hc⟩
section
variable {prog:Program} {w:World} {A:Around} {E:Value -> Shared -> Prop} {s:Shared}
variable {a it:Addr} {es:Array (Int×Value)} {ep i n:Nat} {t:SetTable} {first:Value}
end
end L2
namespace L2
open PySem
section
variable {prog:Program} {w:World} {A:Around} {E:Value -> Shared -> Prop} {s:Shared} {a it:Addr} {es:Array (Int×Value)} {ep i n:Nat} {t:SetTable}
end
section
variable {prog:Program} {w:World} {A:Around} {E:Value -> Shared -> Prop} {s:Shared} {a it:Addr} {es:Array (Int×Value)} {ep i n:Nat} {t:SetTable}
theorem IsSI.at {h h':Heap} {first:Value} (x:IsSI h it first i a n ep) (e:∀ o,h.get? it = some o -> h'.get? it = some o):IsSI h' it first i a n ep:=let ⟨o,ho,r⟩:=x; ⟨o,e _ ho,r⟩
end
end L2
namespace L2
open PySem
section
variable {prog:Program} {w:World} {A A₂:Around} {E:Value -> Shared -> Prop} {s:Shared} {a it:Addr} {es:Array (Int×Value)} {ep i n:Nat} {t:SetTable}
end
end L2
namespace L2
open PySem
section
variable {prog:Program} {w:World} {A A₂:Around} {E:Value -> Shared -> Prop} {s:Shared} {a it:Addr} {es:Array (Int×Value)} {ep i n:Nat} {t:SetTable}
end
end L2
namespace L2
open PySem
noncomputable def txOf:Value -> Str
  | .str x _ => x
  | _ => ⟨#[]⟩
noncomputable def TxSet (w:World) (h:Heap) (a:Addr) (xs:List Str):Prop :=
  ∃ es ep t,h.get? a = some (setObj es ep t) /\ (∀ e ∈ es.toList,∃ y u,e = (hashStr w y,Value.str y u)) /\ es.toList.map (fun e => txOf e.2) = xs /\ xs.Nodup /\ es.size < scanBound /\ t.fits es.size = true /\ Tb w t es.size
theorem TxSet.at {w:World} {h h':Heap} {a:Addr} {xs:List Str} (x:TxSet w h a xs) (e:∀ o,h.get? a = some o -> h'.get? a = some o):TxSet w h' a xs :=
  let ⟨es,ep,t,g,r⟩:=x; ⟨es,ep,t,e _ g,r⟩
theorem TxSet.size {w:World} {h:Heap} {a:Addr} {xs:List Str} (x:TxSet w h a xs):xs.length < scanBound:=by
  obtain ⟨es,ep,t,g,_,e,_,b,_⟩:=x
  rw [← e]
  simpa using b
section
variable {prog:Program} {w:World} {A:Around} {E:Value -> Shared -> Prop} {s:Shared} {a:Addr}
end
section
variable {prog:Program} {w:World} {A:Around} {R:Result -> Shared -> Prop} {I:Addr} {fp wr:List Addr} {G:Array GenState -> Array GenState -> Prop} {n:Nat} {P:Nat -> Value -> Prop} {St:Nat -> Shared -> Prop}
end
end L2
namespace L2
open PySem
section
variable {prog:Program} {w:World} {A:Around} {E:Value -> Shared -> Prop} {s:Shared}
end
end L2
namespace L2
open PySem PyProof.Rows
section
variable {prog:Program} {w:World} {A:Around} {E:Value -> Shared -> Prop} {s:Shared}
end
end L2
namespace L2
open PySem PyProof.Rows
section
variable {prog:Program} {w:World} {K:Type} [DecidableEq K] {knd:KeyKind prog w K} {A A₂:Around} {E:Value -> Shared -> Prop} {s:Shared} {a it:Addr} {kvs:List (K×Value)} {ep:Nat}
end
end L2
namespace L2
open PySem PyProof.Rows
section
variable {prog:Program} {w:World} {A:Around} {E:Value -> Shared -> Prop} {s:Shared}
variable {K:Type} [DecidableEq K] {knd:KeyKind prog w K}
end
end L2
namespace L2
open PySem PyProof.Rows
section
variable {prog:Program} {w:World} {K:Type} [DecidableEq K] {knd:KeyKind prog w K} {A:Around} {E:Value -> Shared -> Prop} {s:Shared} {d:Addr} {kvs:List (K×Value)} {k:K} {key dflt:Value}
end
end L2
namespace L2
open PySem PyProof.Rows
end L2
namespace L2
open PySem PySem.Spec PyProof.Rows
noncomputable def melt (a:Addr) (H:Hp):Hp:=fun b => if b = a then (match H a with | some (.frz _ u) => some u | o => o) else H b
theorem melt_ne {a b:Addr} {H:Hp} (h:b ≠ a):melt a H b = H b:=by unfold melt; rw [if_neg h]
theorem melt_at {a:Addr} {H:Hp} {o:Obj} {u:HO} (h:H a = some (.frz o u)):melt a H a = some u:=by unfold melt; rw [if_pos rfl,h]
theorem melt_none {a b:Addr} {H:Hp} (h:H b = none):melt a H b = none:=by
  unfold melt
  split
  . rename_i e
    subst e
    rw [h]
  . exact h
theorem melt_old {a b:Addr} {H:Hp} {o:HO} (hn:∀ ob u,o ≠ .frz ob u) (h:H b = some o):melt a H b = some o:=by
  unfold melt
  split
  . rename_i e
    subst e
    rw [h]
    cases o <;> first | rfl | exact absurd rfl (hn _ _)
  . exact h
section
variable {X:Cx} {pins:List (Addr×Obj)} {σ:St} {H:Hp} {s:Shared} {a:Addr}
theorem Inv.melt (I:Inv X pins σ H s) (h0:∀ o u,X.H₀ a ≠ some (.frz o u)):Inv X pins σ (L2.melt a H) s:=by
  refine ⟨I.ok,I.os,I.bare,⟨I.base.keep,I.base.slot,fun b o e n hx => melt_none (I.base.free b o e n hx),I.base.there,fun b xs e => melt_old (fun _ _ z => nomatch z) (I.base.tups b xs e),fun b o u e => ?_,fun b ps e => ?_⟩,
    I.loc,I.cell,melt_none I.free,fun x c e => melt_none (I.freeC x c e),fun p hp => ?_,fun b u e => ?_,I.len⟩
  . have hb:b ≠ a:=fun z => by subst z; exact h0 _ _ e
    rw [melt_ne hb]
    exact I.base.frzs b o u e
  . obtain ⟨more,q⟩:=I.base.tbls b ps e
    exact ⟨more,melt_old (fun _ _ z => nomatch z) q⟩
  . obtain ⟨e,n,r⟩:=I.pin p hp
    exact ⟨e,melt_none n,r⟩
  . have st:∀ {v:HO},ObjOk X.prog X.w H s.heap b v -> ObjOk X.prog X.w (L2.melt a H) s.heap b v:=fun {v} x =>
      x.stay (fun _ _ _ q => q) (fun c q => melt_old (fun _ _ z => nomatch z) q) fun c xs q => melt_old (fun _ _ z => nomatch z) q
    by_cases hb:b = a
    . subst hb
      cases q:H b with
      | none => rw [melt_none q] at e; cases e
      | some z =>
        have hz:=I.hok b z q
        by_cases hf:∃ o v,z = .frz o v
        . obtain ⟨o,v,rfl⟩:=hf
          rw [melt_at q] at e
          cases e
          exact st hz.2
        . rw [melt_old (fun o v w => hf ⟨o,v,w⟩) q] at e
          cases e
          exact st hz
    . rw [melt_ne hb] at e
      exact st (I.hok b u e)
end
section
variable {X:Cx} {tg:Expr}
noncomputable def Dm (a:Addr) (D:Ends):Ends:=⟨fun σ H => D.nx σ (melt a H),fun v H => D.rt v (melt a H),fun σ H => D.bk σ (melt a H),fun σ H => D.ct σ (melt a H)⟩
noncomputable def NoFrz (H:Hp) (a:Addr):Prop:=∀ o u,H a ≠ some (.frz o u)
variable {scope:Scope} {tn names:List Str} {is:List Nat} {elt iter:Expr} {ifs:List Expr} {pos:Pos} {tl te:TE} {tc:Option TT} {g:TG}
end
end L2
namespace L2
open PySem PySem.Spec PyProof.Rows
section
variable {X:Cx} {pins:List (Addr×Obj)} {σ:St} {H:Hp} {s:Shared} {tg:Expr}
noncomputable def Ite (K:PySem.W.Frag) (a:Addr):It :=
  ⟨fun i H => ∃ xs x,SqL K H a xs /\ xs[i]? = some x,fun i H v H' => ∃ T x,v = .ref T /\ H T = none /\ H' = upd H T (.tup [.int i,x]) /\ ∀ xs,SqL K H a xs -> xs[i]? = some x,fun i H => ∃ xs,SqL K H a xs /\ xs.length <= i⟩
theorem turn_enum {P:Program} {w:World} {K:PySem.W.Frag} {elts:List Expr} {k1:Nat} {tpos:Pos} (a e it:Addr) (hei:e ≠ it) :
    Turn P w K (.Tuple elts k1 tpos) (Ite K a) [e,it] e (fun i h => (∃ old,IsEnum h e it i old) /\ h.IsListIter it a i) where
  mem:=by simp
  obj:=fun i h st b hb => by
    obtain ⟨⟨old,he⟩,o,e1,c,d⟩:=st
    rcases List.mem_cons.mp hb with rfl | hb
    . exact ⟨_,he,fun v z => nomatch z⟩
    . have hb:b = it:=by simpa using hb
      subst hb
      exact ⟨o,e1,fun v z => by rw [d] at z; cases z⟩
  keep:=fun i h h' ⟨⟨old,he⟩,st⟩ k => ⟨⟨old,k e (by simp) _ he⟩,st.at fun o q => k it (by simp) o q⟩
  item:=by
    intro X hP hw hK hc i pins s σ H E I hf st hg
    subst hP hw hK
    obtain ⟨xs,x,hq,hx⟩:=hg
    obtain ⟨its,rv,p,hz⟩:=I.list hq
    obtain ⟨u,hu,ru⟩:=rv.get hx
    obtain ⟨⟨old,he⟩,hit⟩:=st
    obtain ⟨f0,f1,f2,f3,f4,f5⟩:=hf e (by simp)
    obtain ⟨g0,g1,g2,g3,g4,g5⟩:=hf it (by simp)
    refine wpAny_pyNext_enum_item he hit p.isList (by simpa using hu) hei fun h' ho hit' hT hsz hk => ?_
    refine ⟨_,rfl,wpAny_letOwnedTupleGo_enum (s:={ s with heap:=h',toks:=s.toks + 1 }) ho fun h2 he2 sb => ?_⟩
    have hTn:H s.heap.objs.size = none:=I.hok.fresh (Nat.le_refl _)
    have hTe:s.heap.objs.size ≠ e:=Nat.ne_of_gt (Heap.lt_size he)
    have hTi:s.heap.objs.size ≠ it:=by obtain ⟨_,q,_⟩:=hit; exact Nat.ne_of_gt (Heap.lt_size q)
    have k2:∀ b o,b ≠ e -> b ≠ it -> s.heap.get? b = some o -> h2.get? b = some o:=fun b o n1 n2 q => (sb.2 b n1).trans (hk b o n1 n2 q)
    -- first the iterators turn,then the tuple is tracked
    have I1:Inv X pins σ H { s with heap:=h2,toks:=s.toks + 1 }:=by
      refine I.step (g':=s.gens) (d':=s.drawn) (t':=s.toks + 1) (ch:=[e,it]) (fun b hb => ?_) (fun b o _ _ hb q _ => k2 b o (fun z => hb (by simp [z])) (fun z => hb (by simp [z])) q) (fun b o _ _ hb q _ => ⟨o.slots,k2 b o (fun z => hb (by simp [z])) (fun z => hb (by simp [z])) q⟩)
        (fun b o _ _ q => q) (fun b o hb q => ⟨o,k2 b o (fun z => hb (by simp [z])) (fun z => hb (by simp [z])) q⟩) (fun _ _ q => q) (fun _ _ _ q => q) (fun _ ps q => ⟨#[],by simpa using q⟩) (fun m hm => ?_) ?_ I.bare
      . rcases List.mem_cons.mp hb with rfl | hb
        . exact ⟨f3,f1,f4,f5⟩
        . have hb:b = it:=by simpa using hb
          subst hb
          exact ⟨g3,g1,g4,g5⟩
      . obtain ⟨o,es,ep,q,r⟩:=hm
        exact ⟨o,es,ep,k2 _ _ (Ne.symm f1) (Ne.symm g1) q,r⟩
      . intro b u q
        refine (I.hok b u q).stay (fun c v hc r => k2 c v ?_ ?_ r) (fun _ q => q) fun _ _ q => q
        . rintro rfl
          rcases hc with rfl | hc
          . rw [f0] at q; cases q
          . rw [f0] at hc; cases hc
        . rintro rfl
          rcases hc with rfl | hc
          . rw [g0] at q; cases q
          . rw [g0] at hc; cases hc
    have hT2:h2.get? s.heap.objs.size = some { cls:=.type "tuple",data:=.seq #[.int i s.toks,u] }:=(sb.2 _ hTe).trans hT
    have I2:Inv X pins σ (upd H s.heap.objs.size (.tup [.int i,x])) { s with heap:=h2,toks:=s.toks + 1 }:=by
      have nn:∀ {b:Addr},b < s.heap.objs.size -> H b = none -> upd H s.heap.objs.size (.tup [.int i,x]) b = none:=fun {b} hb e => by rw [upd_ne (Nat.ne_of_lt hb)]; exact e
      have old:∀ {b:Addr} {o:HO},H b = some o -> upd H s.heap.objs.size (.tup [.int i,x]) b = some o:=fun {b o} e => by rw [upd_ne (ne_of_none e hTn)]; exact e
      refine ⟨I1.ok,I1.os,I1.bare,⟨I1.base.keep,I1.base.slot,fun b o q n hx => nn ?_ (I1.base.free b o q n hx),I1.base.there,fun b ys q => old (I1.base.tups b ys q),fun b o v q => old (I1.base.frzs b o v q),fun b ps q => ?_⟩,I1.loc,I1.cell,nn I.lt I1.free,fun y c q => nn ?_ (I1.freeC y c q),fun p hp => ?_,fun b o q => ?_,I1.len⟩
      . exact Nat.lt_of_lt_of_le (Heap.lt_size q) I.sz
      . obtain ⟨more,z⟩:=I1.base.tbls b ps q
        exact ⟨more,old z⟩
      . obtain ⟨v,z⟩:=I.cell y c q
        exact z.lt
      . obtain ⟨z1,z2,z3⟩:=I1.pin p hp
        exact ⟨z1,nn (Heap.lt_size (I.pin p hp).1) z2,z3⟩
      . by_cases hb:b = s.heap.objs.size
        . subst hb
          rw [upd_same] at q
          cases q
          exact ⟨by rw [sizeLine_eq]; simp,[.int i s.toks,u],.cons ⟨_,rfl⟩ (.cons ru .nil),_,hT2,rfl,_,rfl⟩
        . rw [upd_ne hb] at q
          exact (I1.hok b o q).stay (fun _ _ _ z => z) (fun c z => old z) fun c ys z => old z
    exact ⟨.ref s.heap.objs.size,_,I2,rfl,⟨s.heap.objs.size,x,rfl,hTn,rfl,fun ys hy => by rw [I.list_inj hy hq]; exact hx⟩,⟨⟨u,by simpa using he2⟩,hit'.at fun o q => (sb.2 it (Ne.symm hei)).trans q⟩,fun b hb => by
      rcases List.mem_cons.mp hb with rfl | hb
      . rw [upd_ne (Ne.symm hTe)]; exact f0
      . have hb:b = it:=by simpa using hb
        subst hb
        rw [upd_ne (Ne.symm hTi)]; exact g0⟩
  done:=by
    intro X hP hw hK hc i pins s σ H E I hf st hg
    subst hP hw hK
    obtain ⟨xs,hq,hx⟩:=hg
    obtain ⟨its,rv,p,hz⟩:=I.list hq
    obtain ⟨⟨old,he⟩,hit⟩:=st
    obtain ⟨g0,g1,g2,g3,g4,g5⟩:=hf it (by simp)
    have hl:=rv.length
    exact wpAny_pyNext_enum_end (I.ok.hd hc) he hit p.isList (by simp; omega) fun h' eb => ⟨rfl,I.turned (t':=s.toks) (fun b o hb e => eb b o hb e) g0 g1 g3 g4 g5⟩
  self:=fun _ _ _ _ _ ⟨⟨_,he⟩,_⟩ h => wpAny_pyIter_enum he h
noncomputable def iEnum (K:PySem.W.Frag) (tl:TA):TI:=fun σ H R => tl σ H fun vs H1 => ∃ a,vs = [.ref a] /\ (∃ xs,SqL K H1 a xs) /\ R (Ite K a) H1
theorem pi_enum {l:Expr} {tl:TA} {elts:List Expr} {k1:Nat} {tpos p pos:Pos} (hg:Gl X "enumerate") (hm:X.mg "enumerate" = none) (ha:PA X [l] tl) (hs:starEach [l] X.env = [(false,eval l X.env)]:=by rfl) :
    PI X (.Tuple elts k1 tpos) (.Call (.Name "enumerate" p) [l] [] pos) (iEnum X.K tl):=by
  intro pins s σ H R I h
  refine Call_ (ld_blt I hg hm bt_enumerate (PyProof.Rows.callWith_type1 (thn (ha pos pins s σ H _ I h) fun us s1 ⟨vs,H1,I1,r1,q1⟩ => ?_) hs rfl))
  obtain ⟨a,e,⟨xs,hq⟩,q⟩:=q1
  subst e
  cases r1 with
  | cons r rr =>
    cases rr
    cases r
    obtain ⟨its,rv,p,hz⟩:=I1.list hq
    refine call_enumerate_list p.isList fun h' he hit hsz kp => ?_
    refine wpAny_pyIter_enum he ?_
    have I2:Inv X pins σ H1 { s1 with heap:=h' }:=I1.kept (t':=s1.toks) kp
    refine ⟨_,[s1.heap.objs.size + 1,s1.heap.objs.size],_,_,H1,rfl,I2,turn_enum a _ _ (Nat.ne_of_gt (Nat.lt_succ_self _)),⟨⟨_,he⟩,hit⟩,fun b hb => ?_,q⟩
    rcases List.mem_cons.mp hb with rfl | hb
    . exact I1.fpOk (Nat.le_succ _) (I1.hok.fresh (Nat.le_succ _))
    . have hb:b = s1.heap.objs.size:=by simpa using hb
      subst hb
      exact I1.fpOk (Nat.le_refl _) (I1.hok.fresh (Nat.le_refl _))
theorem vals_strs:∀ {xs:List Str} {us:List Value},Vals (xs.map V.str) us -> StrsAre us xs
  | [],_,.nil => .nil
  | x :: xs,_,.cons r t => by
    obtain ⟨tk,rfl⟩:=r
    exact .cons x tk (vals_strs t)
theorem Paired.at {α β:Type} {F:α -> β -> Prop}:∀ {xs:List α} {ys:List β} {i:Nat} {x:α},Paired F xs ys -> xs[i]? = some x -> ∃ y,ys[i]? = some y /\ F x y
  | _,_,_,_,.nil,e => by simp at e
  | _,_,0,_,.cons r _,e => by simp at e; subst e; exact ⟨_,rfl,r⟩
  | _,_,i + 1,x,.cons _ t,e => by
    obtain ⟨y,h1,h2⟩:=Paired.at (i:=i) (x:=x) t (by simpa using e)
    exact ⟨y,by simpa using h1,h2⟩
end
end L2
namespace L2
open PySem PySem.Spec PyProof.Rows
section
variable {X:Cx}
noncomputable def rJoin:V -> List V -> Hp -> VK -> Prop:=fun x vs H Q => ∃ (z:Str) (l:Addr) (ys:List Str),x = .str z /\ vs = [.ref l] /\ H l = some (.lst (ys.map V.str)) /\ (ys.map (·.length)).sum + ys.length * z.length <= 16777216 /\ Q (.str (Str.join z ys)) H
theorem mt_join:MtR X "str.join" rJoin:=by
  intro pins s σ H x vs v us Q I rx rv h
  obtain ⟨z,l,ys,rfl,rfl,hl,hs,q⟩:=h
  obtain ⟨t,rfl⟩:=rx
  obtain ⟨u,rfl,ru⟩:=rv.one
  cases ru
  obtain ⟨_,its,n,r,_,e⟩:=I.lstM hl
  refine join_list ⟨_,e,rfl,n,rfl⟩ (by simpa using vals_strs r) hs fun t' k => ?_
  have e1:Txt.join z ys = Str.join z ys:=StrLaws.glued_eq_join z ys
  rw [e1]
  exact ⟨.str _,H,I.tok _,⟨_,rfl⟩,q⟩
noncomputable def rSlS:V -> Option Int -> Option Int -> Hp -> VK -> Prop:=fun x lo hi H Q => ∃ z:Str,x = .str z /\ z.length <= sizeLine /\ Q (.str (Txt.slice z lo hi)) H
theorem part_of {v:Value} {lo:Option Int} (h:IsPart v lo):∃ l:Option (Int×Tok),l.map (·.1) = lo /\ v = partValue l:=by
  cases h with
  | none => exact ⟨none,rfl,rfl⟩
  | int i t => exact ⟨some (i,t),rfl,rfl⟩
theorem sl_str:SlR X rSlS:=by
  intro pins s σ H x v vl vu lo hi sl Q I rx hs pl pu h
  obtain ⟨z,rfl,hz,q⟩:=h
  obtain ⟨t,rfl⟩:=rx
  obtain ⟨l,e1,rfl⟩:=part_of pl
  obtain ⟨u,e2,rfl⟩:=part_of pu
  subst e1 e2
  refine ⟨"str",_,F.slot_str_getitem.lookup,typeIs_str _ _ _,wpAny_getItem_str_slice (l:=l) (u:=u) (st:=none) ?_ rfl (post_val_or_str ?_)⟩
  . obtain ⟨o,a,b,c⟩:=hs
    exact ⟨o,a,b,c⟩
  . exact ⟨Nat.le_trans (Txt.slice_le z _ _) hz,fun t' k => ⟨.str _,H,I.tok _,⟨_,rfl⟩,q⟩⟩
end
end L2
namespace L2
section
variable {α:Type} [DecidableEq α]
noncomputable abbrev RunD (α:Type):=α×α×Rat
noncomputable abbrev EntD (α:Type):=Rat×Option (Nat×α)
noncomputable abbrev AL (α β:Type):=List (α×β)
noncomputable def aget {β:Type} (l:AL α β) (k:α):Option β:=(l.find? fun kv => decide (kv.1 = k)).map (·.2)
noncomputable def aput {β:Type} (l:AL α β) (k:α) (v:β):AL α β:=if (l.any fun kv => decide (kv.1 = k)) then l.map (fun kv => if kv.1 = k then (kv.1,v) else kv) else l ++ [(k,v)]
noncomputable def adrop {β:Type} (l:AL α β) (k:α):AL α β:=l.filter fun kv => decide (kv.1 ≠ k)
theorem aget_mem {β:Type} {l:AL α β} {k:α} {v:β} (h:aget l k = some v):(k,v) ∈ l:=by
  unfold aget at h
  rw [Option.map_eq_some_iff] at h
  obtain ⟨kv,h1,h2⟩:=h
  have h3:=List.find?_some h1
  have h4:=List.mem_of_find?_eq_some h1
  simp at h3
  obtain ⟨a,b⟩:=kv
  simp at h2 h3
  subst h2 h3
  exact h4
theorem aget_none {β:Type} {l:AL α β} {k:α} (h:aget l k = none):∀ v,(k,v) ∉ l:=by
  intro v hm
  unfold aget at h
  rw [Option.map_eq_none_iff,List.find?_eq_none] at h
  have:=h _ hm
  simp at this
theorem aget_of {β:Type} {l:AL α β} {k:α} {v:β} (nd:(l.map (·.1)).Nodup) (h:(k,v) ∈ l):aget l k = some v:=by
  cases e:aget l k with
  | none => exact absurd h (aget_none e v)
  | some u =>
    have h2:=aget_mem e
    induction l with
    | nil => cases h
    | cons x r ih =>
      rw [List.map_cons,List.nodup_cons] at nd
      rcases List.mem_cons.mp h with rfl | h'
      . rcases List.mem_cons.mp h2 with h3 | h3
        . cases h3; rfl
        . exact absurd (List.mem_map.mpr ⟨_,h3,rfl⟩) nd.1
      . rcases List.mem_cons.mp h2 with h3 | h3
        . subst h3
          exact absurd (List.mem_map.mpr ⟨_,h',rfl⟩) nd.1
        . have e':aget r k = some u:=by
            unfold aget at e ⊢
            rw [List.find?_cons] at e
            have:(decide (x.1 = k)) = false:=by
              apply decide_eq_false
              intro z
              subst z
              exact nd.1 (List.mem_map.mpr ⟨_,h',rfl⟩)
            rw [this] at e
            exact e
          exact ih nd.2 h' e' h3
theorem mem_aput {β:Type} {l:AL α β} {k:α} {v:β} {x:α} {y:β} (h:(x,y) ∈ aput l k v):(x = k /\ y = v) ∨ (x ≠ k /\ (x,y) ∈ l):=by
  unfold aput at h
  split at h
  . rw [List.mem_map] at h
    obtain ⟨kv,h1,h2⟩:=h
    split at h2
    . rename_i e
      cases h2
      exact .inl ⟨e,rfl⟩
    . rename_i e
      subst h2
      exact .inr ⟨e,h1⟩
  . rename_i e
    rcases List.mem_append.mp h with h1 | h1
    . refine .inr ⟨?_,h1⟩
      rintro rfl
      apply e
      rw [List.any_eq_true]
      exact ⟨_,h1,by simp⟩
    . rw [List.mem_singleton] at h1
      cases h1
      exact .inl ⟨rfl,rfl⟩
theorem aput_mem {β:Type} {l:AL α β} {k:α} {v:β}:(k,v) ∈ aput l k v:=by
  unfold aput
  split
  . rename_i e
    rw [List.any_eq_true] at e
    obtain ⟨kv,h1,h2⟩:=e
    rw [List.mem_map]
    refine ⟨kv,h1,?_⟩
    have:=of_decide_eq_true h2
    rw [if_pos this,this]
  . exact List.mem_append_right _ (List.mem_singleton.mpr rfl)
theorem aput_old {β:Type} {l:AL α β} {k:α} {v:β} {x:α} {y:β} (hx:x ≠ k) (h:(x,y) ∈ l):(x,y) ∈ aput l k v:=by
  unfold aput
  split
  . rw [List.mem_map]
    exact ⟨_,h,by rw [if_neg hx]⟩
  . exact List.mem_append_left _ h
theorem aput_nd {β:Type} {l:AL α β} {k:α} {v:β} (nd:(l.map (·.1)).Nodup):((aput l k v).map (·.1)).Nodup:=by
  unfold aput
  split
  . rw [List.map_map]
    have:((fun x => x.1) ∘ fun (kv:α×β) => if kv.1 = k then (kv.1,v) else kv) = fun kv => kv.1:=by
      funext kv
      simp only [Function.comp]
      split <;> rfl
    rw [this]
    exact nd
  . rename_i e
    rw [List.map_append,List.nodup_append]
    refine ⟨nd,by simp,?_⟩
    intro a ha b hb
    simp at hb
    subst hb
    rintro rfl
    apply e
    rw [List.mem_map] at ha
    obtain ⟨kv,h1,h2⟩:=ha
    rw [List.any_eq_true]
    exact ⟨kv,h1,by simp [h2]⟩
theorem aput_keys {β:Type} {l:AL α β} {k:α} {v:β} {x:α} (h:x ∈ (aput l k v).map (·.1)):x = k ∨ x ∈ l.map (·.1):=by
  rw [List.mem_map] at h
  obtain ⟨⟨a,b⟩,h1,rfl⟩:=h
  rcases mem_aput h1 with ⟨e,_⟩ | ⟨_,e⟩
  . exact .inl e
  . exact .inr (List.mem_map.mpr ⟨_,e,rfl⟩)
theorem mem_adrop {β:Type} {l:AL α β} {k:α} {x:α×β}:x ∈ adrop l k ↔ x ∈ l /\ x.1 ≠ k:=by
  unfold adrop
  rw [List.mem_filter]
  simp
theorem adrop_nd {β:Type} {l:AL α β} {k:α} (nd:(l.map (·.1)).Nodup):((adrop l k).map (·.1)).Nodup:=by
  unfold adrop
  exact nd.sublist (List.filter_sublist.map _)
theorem aget_put {β:Type} (l:AL α β) (k j:α) (v:β):aget (aput l k v) j = if j = k then some v else aget l j:=by
  by_cases e:j = k
  . subst e
    rw [if_pos rfl]
    unfold aget aput
    split
    . rename_i h
      induction l with
      | nil => simp at h
      | cons x r ih =>
        rw [List.map_cons,List.find?_cons]
        by_cases hx:x.1 = j
        . simp [hx]
        . rw [if_neg hx]
          simp only [hx,decide_false]
          apply ih
          rw [List.any_cons] at h
          simpa [hx] using h
    . rename_i h
      induction l with
      | nil => simp
      | cons x r ih =>
        rw [List.any_cons] at h
        have hx:¬ x.1 = j:=fun z => h (by simp [z])
        rw [List.cons_append,List.find?_cons]
        simp only [hx,decide_false]
        exact ih (by simpa [hx] using h)
  . rw [if_neg e]
    unfold aget aput
    split
    . rename_i h
      clear h
      induction l with
      | nil => rfl
      | cons x r ih =>
        rw [List.map_cons,List.find?_cons,List.find?_cons]
        by_cases hx:x.1 = k
        . rw [if_pos hx]
          have:¬ x.1 = j:=fun z => e (z.symm.trans hx)
          simp only [this,decide_false]
          exact ih
        . rw [if_neg hx]
          by_cases hj:x.1 = j
          . simp [hj]
          . simp only [hj,decide_false]
            exact ih
    . rename_i h
      rw [List.find?_append]
      have:List.find? (fun kv => decide (kv.1 = j)) [(k,v)] = none:=by
        simp [Ne.symm e]
      rw [this,Option.or_none]
noncomputable def Jn (r:RunD α) (q p:α):Prop:=(r.1 = q /\ r.2.1 = p) ∨ (r.2.1 = q /\ r.1 = p)
theorem Jn.symm {r:RunD α} {q p:α} (h:Jn r q p):Jn r p q:=h.elim (fun ⟨a,b⟩ => .inr ⟨b,a⟩) fun ⟨a,b⟩ => .inl ⟨b,a⟩
noncomputable def NotOut (tk:Nat -> Option Rat) (k:Nat) (t:Rat):Prop:=∀ u,tk k = some u -> t <= u
theorem NotOut.le {tk:Nat -> Option Rat} {k:Nat} {s t:Rat} (h:NotOut tk k t) (l:s <= t):NotOut tk k s:=fun u e => Rat.le_trans l (h u e)
variable (net:List (RunD α)) (push:α -> Option Rat) (tk:Nat -> Option Rat)
inductive Arr:α -> Rat -> Prop
  | push {p t}:push p = some t -> Arr p t
  | run {q s p k r}:Arr q s -> net[k]? = some r -> Jn r q p -> NotOut tk k (s + r.2.2) -> Arr p (s + r.2.2)
structure Falls (m:α -> Option Rat):Prop where
  arr:∀ p t,m p = some t -> Arr net push tk p t
  le:∀ p t,Arr net push tk p t -> ∃ u,m p = some u /\ u <= t
variable {net push tk}
theorem Falls.uniq {m m':α -> Option Rat} (h:Falls net push tk m) (h':Falls net push tk m'):m = m':=by
  have key:∀ {m m':α -> Option Rat},Falls net push tk m -> Falls net push tk m' -> ∀ p t,m p = some t -> ∃ u,m' p = some u /\ u <= t:=fun h h' p t e => h'.le p t (h.arr p t e)
  funext p
  cases e:m p with
  | none =>
    cases e':m' p with
    | none => rfl
    | some u =>
      obtain ⟨w,e2,_⟩:=key h' h p u e'
      rw [e] at e2
      cases e2
  | some t =>
    obtain ⟨u,e1,l1⟩:=key h h' p t e
    obtain ⟨w,e2,l2⟩:=key h' h p u e1
    rw [e] at e2
    cases e2
    rw [e1]
    exact congrArg some (Rat.le_antisymm l2 l1)
noncomputable def Sup (net:List (RunD α)) (push:α -> Option Rat) (tk:Nat -> Option Rat) (F:AL α (EntD α)) (p:α):EntD α -> Prop
  | (t,none) => push p = some t
  | (t,some (k,q)) => ∃ r e,net[k]? = some r /\ Jn r q p /\ (q,e) ∈ F /\ t = e.1 + r.2.2 /\ NotOut tk k t
theorem Sup.mono {F F':AL α (EntD α)} {p:α} {e:EntD α} (h:Sup net push tk F p e) (s:∀ x ∈ F,x ∈ F'):Sup net push tk F' p e:=by
  obtain ⟨t,o⟩:=e
  cases o with
  | none => exact h
  | some kq =>
    obtain ⟨r,e,a,b,c,d⟩:=h
    exact ⟨r,e,a,b,s _ c,d⟩
noncomputable def Has (W F:AL α (EntD α)) (p:α) (t:Rat):Prop:=∃ e,((p,e) ∈ W ∨ (p,e) ∈ F) /\ e.1 <= t
structure FInv (net:List (RunD α)) (push:α -> Option Rat) (tk:Nat -> Option Rat) (C:α -> Nat -> α -> Prop) (W F:AL α (EntD α)):Prop where
  ndW:(W.map (·.1)).Nodup
  ndF:(F.map (·.1)).Nodup
  dis:∀ p,p ∈ W.map (·.1) -> p ∉ F.map (·.1)
  sup:∀ p e,(p,e) ∈ W -> Sup net push tk F p e
  ord:∀ i p e,F[i]? = some (p,e) -> Sup net push tk (F.take i) p e
  mono:∀ f ∈ F,∀ w ∈ W,f.2.1 <= w.2.1
  psh:∀ p t,push p = some t -> Has W F p t
  clo:∀ q e,(q,e) ∈ F -> ∀ k r p,net[k]? = some r -> Jn r q p -> C q k p -> NotOut tk k (e.1 + r.2.2) -> Has W F p (e.1 + r.2.2)
theorem FInv.start {W:AL α (EntD α)} {C:α -> Nat -> α -> Prop} (nd:(W.map (·.1)).Nodup) (h:∀ p e,(p,e) ∈ W -> e.2 = none /\ push p = some e.1) (h2:∀ p t,push p = some t -> (p,(t,none)) ∈ W):FInv net push tk C W []:=by
  refine ⟨nd,by simp,fun _ _ => by simp,fun p e he => ?_,fun i p e he => by simp at he,fun f hf => by simp at hf,fun p t e => ⟨_,.inl (h2 p t e),Rat.le_refl⟩,fun q e he => by simp at he⟩
  obtain ⟨t,o⟩:=e
  obtain ⟨rfl,z⟩:=h p _ he
  exact z
theorem FInv.pop {W F:AL α (EntD α)} {p:α} {e:EntD α} {C:α -> Nat -> α -> Prop} (I:FInv net push tk (fun _ _ _ => True) W F) (hp:(p,e) ∈ W) (hm:∀ w ∈ W,e.1 <= w.2.1) (hC:∀ q k x,C q k x -> q ≠ p):FInv net push tk C (adrop W p) (F ++ [(p,e)]):=by
  have hpF:p ∉ F.map (·.1):=I.dis p (List.mem_map.mpr ⟨_,hp,rfl⟩)
  have has:∀ {x t},Has W F x t -> Has (adrop W p) (F ++ [(p,e)]) x t:=fun {x t} ⟨u,h1,h2⟩ => by
    rcases h1 with h1 | h1
    . by_cases hx:x = p
      . subst hx
        have:u = e:=Option.some.inj ((aget_of I.ndW h1).symm.trans (aget_of I.ndW hp))
        subst this
        exact ⟨u,.inr (by simp),h2⟩
      . exact ⟨u,.inl (mem_adrop.mpr ⟨h1,hx⟩),h2⟩
    . exact ⟨u,.inr (List.mem_append_left _ h1),h2⟩
  refine ⟨adrop_nd I.ndW,?_,fun x hx => ?_,fun x u hu => ?_,fun i x u hi => ?_,fun f hf w hw => ?_,fun x t hx => has (I.psh x t hx),fun q u hq k r x h1 h2 h3 h4 => ?_⟩
  . rw [List.map_append,List.nodup_append]
    refine ⟨I.ndF,by simp,fun a ha b hb => ?_⟩
    simp at hb
    subst hb
    rintro rfl
    exact hpF ha
  . rw [List.mem_map] at hx
    obtain ⟨y,hy,rfl⟩:=hx
    have hy:=mem_adrop.mp hy
    rw [List.map_append,List.mem_append]
    rintro (z | z)
    . exact I.dis _ (List.mem_map.mpr ⟨_,hy.1,rfl⟩) z
    . simp at z
      exact hy.2 z
  . exact (I.sup x u (mem_adrop.mp hu).1).mono fun y hy => List.mem_append_left _ hy
  . by_cases hi2:i < F.length
    . rw [List.getElem?_append_left hi2] at hi
      rw [List.take_append_of_le_length (Nat.le_of_lt hi2)]
      exact I.ord i x u hi
    . rw [List.getElem?_append_right (by omega)] at hi
      have:i - F.length = 0:=by
        cases e2:i - F.length with
        | zero => rfl
        | succ n => rw [e2] at hi; simp at hi
      have hi3:i = F.length:=by omega
      subst hi3
      simp at hi
      obtain ⟨rfl,rfl⟩:=hi
      rw [List.take_left]
      exact I.sup _ _ hp
  . have hw:=mem_adrop.mp hw
    rcases List.mem_append.mp hf with hf | hf
    . exact I.mono f hf w hw.1
    . simp at hf
      subst hf
      exact hm w hw.1
  . rcases List.mem_append.mp hq with hq | hq
    . exact has (I.clo q u hq k r x h1 h2 trivial h4)
    . simp at hq
      exact absurd hq.1 (hC _ _ _ h3)
theorem FInv.turn {W F:AL α (EntD α)} {p x:α} {e:EntD α} {k:Nat} {r:RunD α} {C C':α -> Nat -> α -> Prop} (I:FInv net push tk C W F) (hp:(p,e) ∈ F) (hr:net[k]? = some r) (hj:Jn r p x) (hle:∀ w ∈ F,w.2.1 <= e.1) (h0:0 < r.2.2)
    (hC:∀ q j y,C' q j y -> C q j y ∨ (q = p /\ j = k /\ y = x)) {W':AL α (EntD α)}
    (hW:(W' = W /\ (x ∈ F.map (·.1) ∨ ¬ NotOut tk k (e.1 + r.2.2) ∨ ∃ u,(x,u) ∈ W /\ u.1 <= e.1 + r.2.2)) ∨
      (x ∉ F.map (·.1) /\ NotOut tk k (e.1 + r.2.2) /\ (∀ u,(x,u) ∈ W -> e.1 + r.2.2 <= u.1) /\ W' = aput W x (e.1 + r.2.2,some (k,p)))):FInv net push tk C' W' F:=by
  rcases hW with ⟨rfl,h⟩ | ⟨hxF,hno,hu,rfl⟩
  . refine ⟨I.ndW,I.ndF,I.dis,I.sup,I.ord,I.mono,I.psh,fun q u hq j r' y h1 h2 h3 h4 => ?_⟩
    rcases hC q j y h3 with h3 | ⟨rfl,rfl,rfl⟩
    . exact I.clo q u hq j r' y h1 h2 h3 h4
    . rw [hr] at h1
      cases h1
      have:u = e:=Option.some.inj ((aget_of I.ndF hq).symm.trans (aget_of I.ndF hp))
      subst this
      rcases h with h | h | ⟨w,h5,h6⟩
      . rw [List.mem_map] at h
        obtain ⟨⟨a,b⟩,h5,rfl⟩:=h
        refine ⟨b,.inr h5,?_⟩
        have:=hle _ h5
        simp only at this
        grind
      . exact absurd h4 h
      . exact ⟨w,.inl h5,h6⟩
  . have has:∀ {y t},Has W F y t -> Has (aput W x (e.1 + r.2.2,some (k,p))) F y t:=fun {y t} ⟨u,h1,h2⟩ => by
      rcases h1 with h1 | h1
      . by_cases hy:y = x
        . subst hy
          exact ⟨_,.inl aput_mem,Rat.le_trans (hu u h1) h2⟩
        . exact ⟨u,.inl (aput_old hy h1),h2⟩
      . exact ⟨u,.inr h1,h2⟩
    refine ⟨aput_nd I.ndW,I.ndF,fun y hy => ?_,fun y u hy => ?_,I.ord,fun f hf w hw => ?_,fun y t hy => has (I.psh y t hy),fun q u hq j r' y h1 h2 h3 h4 => ?_⟩
    . rcases aput_keys hy with rfl | hy
      . exact hxF
      . exact I.dis y hy
    . rcases mem_aput hy with ⟨rfl,rfl⟩ | ⟨_,hy⟩
      . exact ⟨r,e,hr,hj,hp,rfl,hno⟩
      . exact I.sup y u hy
    . obtain ⟨y,u⟩:=w
      rcases mem_aput hw with ⟨rfl,rfl⟩ | ⟨_,hy⟩
      . have:=hle f hf
        show f.2.1 <= e.1 + r.2.2
        grind
      . exact I.mono f hf _ hy
    . rcases hC q j y h3 with h3 | ⟨rfl,rfl,rfl⟩
      . exact has (I.clo q u hq j r' y h1 h2 h3 h4)
      . rw [hr] at h1
        cases h1
        have:u = e:=Option.some.inj ((aget_of I.ndF hq).symm.trans (aget_of I.ndF hp))
        subst this
        exact ⟨_,.inl aput_mem,Rat.le_refl⟩
structure FOrd (net:List (RunD α)) (push:α -> Option Rat) (tk:Nat -> Option Rat) (F:AL α (EntD α)):Prop where
  nd:(F.map (·.1)).Nodup
  ord:∀ i p e,F[i]? = some (p,e) -> Sup net push tk (F.take i) p e
  psh:∀ p t,push p = some t -> ∃ e,(p,e) ∈ F /\ e.1 <= t
  clo:∀ q e,(q,e) ∈ F -> ∀ k r p,net[k]? = some r -> Jn r q p -> NotOut tk k (e.1 + r.2.2) -> ∃ u,(p,u) ∈ F /\ u.1 <= e.1 + r.2.2
theorem FInv.done {F:AL α (EntD α)} (I:FInv net push tk (fun _ _ _ => True) [] F):FOrd net push tk F:=by
  refine ⟨I.ndF,I.ord,fun p t h => ?_,fun q e hq k r p h1 h2 h3 => ?_⟩
  . obtain ⟨e,h1,h2⟩:=I.psh p t h
    exact ⟨e,h1.resolve_left (by simp),h2⟩
  . obtain ⟨u,h4,h5⟩:=I.clo q e hq k r p h1 h2 trivial h3
    exact ⟨u,h4.resolve_left (by simp),h5⟩
noncomputable def momOf (F:AL α (EntD α)) (p:α):Option Rat:=(aget F p).map (·.1)
theorem FOrd.arr {F:AL α (EntD α)} (O:FOrd net push tk F):∀ (i:Nat) (p:α) (e:EntD α),F[i]? = some (p,e) -> Arr net push tk p e.1:=by
  intro i
  induction i using Nat.strongRecOn with
  | ind i ih =>
    intro p e hi
    have h:=O.ord i p e hi
    obtain ⟨t,o⟩:=e
    cases o with
    | none => exact .push h
    | some kq =>
      obtain ⟨k,q⟩:=kq
      obtain ⟨r,e,h1,h2,h3,h4,h5⟩:=h
      obtain ⟨j,hj⟩:=List.mem_iff_getElem?.mp h3
      rw [List.getElem?_take] at hj
      split at hj
      . rename_i hlt
        subst h4
        exact .run (ih j hlt q e hj) h1 h2 h5
      . cases hj
theorem FOrd.falls {F:AL α (EntD α)} (O:FOrd net push tk F):Falls net push tk (momOf F):=by
  refine ⟨fun p t h => ?_,fun p t h => ?_⟩
  . unfold momOf at h
    rw [Option.map_eq_some_iff] at h
    obtain ⟨e,h1,rfl⟩:=h
    obtain ⟨i,hi⟩:=List.mem_iff_getElem?.mp (aget_mem h1)
    exact O.arr i p e hi
  . induction h with
    | push h =>
      obtain ⟨e,h1,h2⟩:=O.psh _ _ h
      exact ⟨e.1,by unfold momOf; rw [aget_of O.nd h1]; rfl,h2⟩
    | run h1 h2 h3 h4 ih =>
      obtain ⟨u,h5,h6⟩:=ih
      unfold momOf at h5
      rw [Option.map_eq_some_iff] at h5
      obtain ⟨e,h7,rfl⟩:=h5
      rename_i q s p k r
      have hle:e.1 + r.2.2 <= s + r.2.2:=by grind
      obtain ⟨u,h8,h9⟩:=O.clo q e (aget_mem h7) k r p h2 h3 (h4.le hle)
      exact ⟨u.1,by unfold momOf; rw [aget_of O.nd h8]; rfl,Rat.le_trans h9 hle⟩
end
end L2
namespace L2
section
variable {α:Type} [DecidableEq α] {net:List (RunD α)} {push:α -> Option Rat} {tk:Nat -> Option Rat} {F:AL α (EntD α)}
noncomputable def Sat (f:α -> Option Rat) (p:α) (t:Rat):Prop:=∃ u,f p = some u /\ u <= t
noncomputable def Dec (f g:α -> Option Rat):Prop:=∀ p t,f p = some t -> Sat g p t
theorem Dec.refl (f:α -> Option Rat):Dec f f:=fun _ t h => ⟨t,h,Rat.le_refl⟩
theorem Dec.sat {f g:α -> Option Rat} (d:Dec f g) {p:α} {t:Rat} (h:Sat f p t):Sat g p t:=by
  obtain ⟨u,h1,h2⟩:=h
  obtain ⟨w,h3,h4⟩:=d p u h1
  exact ⟨w,h3,Rat.le_trans h4 h2⟩
theorem Dec.trans {f g h:α -> Option Rat} (a:Dec f g) (b:Dec g h):Dec f h:=fun p t e => b.sat (a p t e)
noncomputable def Snd (net:List (RunD α)) (push:α -> Option Rat) (tk:Nat -> Option Rat) (f:α -> Option Rat):Prop:=∀ p t,f p = some t -> Arr net push tk p t
noncomputable def Rlx (tk:Nat -> Option Rat) (k:Nat) (x:Rat) (a b:α) (f g:α -> Option Rat):Prop :=
  (f a = none /\ g = f) ∨ (∃ s,f a = some s /\ ¬ NotOut tk k (s + x) /\ g = f) ∨
    ∃ s,f a = some s /\ NotOut tk k (s + x) /\ ((f b = none /\ g = fun p => if p = b then some (s + x) else f p) ∨ ∃ t,f b = some t /\ g = fun p => if p = b then some (if t < s + x then t else s + x) else f p)
theorem Rlx.dec {k:Nat} {x:Rat} {a b:α} {f g:α -> Option Rat} (h:Rlx tk k x a b f g):Dec f g:=by
  rcases h with ⟨_,rfl⟩ | ⟨_,_,_,rfl⟩ | ⟨s,h1,h2,⟨h3,rfl⟩ | ⟨t,h3,rfl⟩⟩
  . exact Dec.refl _
  . exact Dec.refl _
  . intro p t h
    have:p ≠ b:=fun z => by subst z; rw [h3] at h; cases h
    exact ⟨t,by simp only [if_neg this]; exact h,Rat.le_refl⟩
  . intro p u h
    by_cases hp:p = b
    . subst hp
      rw [h3] at h
      cases h
      refine ⟨_,by simp only [if_pos rfl]; rfl,?_⟩
      split <;> grind
    . exact ⟨u,by simp only [if_neg hp]; exact h,Rat.le_refl⟩
theorem Rlx.snd {k:Nat} {a b:α} {r:RunD α} {f g:α -> Option Rat} (h:Rlx tk k r.2.2 a b f g) (hr:net[k]? = some r) (hj:Jn r a b) (hs:Snd net push tk f):Snd net push tk g:=by
  rcases h with ⟨_,rfl⟩ | ⟨_,_,_,rfl⟩ | ⟨s,h1,h2,⟨h3,rfl⟩ | ⟨t,h3,rfl⟩⟩
  . exact hs
  . exact hs
  . intro p u h
    by_cases hp:p = b
    . subst hp
      simp only [if_true] at h
      cases h
      exact .run (hs _ _ h1) hr hj h2
    . simp only [if_neg hp] at h
      exact hs p u h
  . intro p u h
    by_cases hp:p = b
    . subst hp
      simp only [if_true] at h
      cases h
      split
      . exact hs _ _ h3
      . exact .run (hs _ _ h1) hr hj h2
    . simp only [if_neg hp] at h
      exact hs p u h
theorem Rlx.sat {k:Nat} {x:Rat} {a b:α} {f g:α -> Option Rat} (h:Rlx tk k x a b f g) {s:Rat} (hs:Sat f a s) (hn:NotOut tk k (s + x)):Sat g b (s + x):=by
  obtain ⟨u,h1,h2⟩:=hs
  have hle:u + x <= s + x:=by grind
  rcases h with ⟨e,_⟩ | ⟨s',e,h3,_⟩ | ⟨s',e,h3,⟨h4,rfl⟩ | ⟨t,h4,rfl⟩⟩
  . rw [h1] at e; cases e
  . rw [h1] at e; cases e
    exact absurd (hn.le hle) h3
  . rw [h1] at e; cases e
    exact ⟨u + x,by simp,hle⟩
  . rw [h1] at e; cases e
    refine ⟨_,by simp only [if_pos rfl]; rfl,?_⟩
    split <;> grind
structure Rnd (net:List (RunD α)) (push:α -> Option Rat) (tk:Nat -> Option Rat) (F:AL α (EntD α)) (i n:Nat) (f:α -> Option Rat):Prop where
  snd:Snd net push tk f
  psh:∀ p t,push p = some t -> Sat f p t
  past:∀ (j:Nat) p e,F[j]? = some (p,e) -> j < i -> Sat f p e.1
  now:∀ p e k q,F[i]? = some (p,e) -> e.2 = some (k,q) -> k < n -> Sat f p e.1
theorem Rnd.start:Rnd net push tk F 0 0 push:=⟨fun _ _ h => .push h,fun _ t h => ⟨t,h,Rat.le_refl⟩,fun _ _ _ _ h => absurd h (Nat.not_lt_zero _),fun _ _ _ _ _ _ h => absurd h (Nat.not_lt_zero _)⟩
theorem Rnd.run {i n:Nat} {f g g':α -> Option Rat} {r:RunD α} (O:FOrd net push tk F) (R:Rnd net push tk F i n f) (hr:net[n]? = some r) (h1:Rlx tk n r.2.2 r.1 r.2.1 f g) (h2:Rlx tk n r.2.2 r.2.1 r.1 g g'):Rnd net push tk F i (n + 1) g':=by
  have d:Dec f g':=h1.dec.trans h2.dec
  refine ⟨h2.snd hr (.inr ⟨rfl,rfl⟩) (h1.snd hr (.inl ⟨rfl,rfl⟩) R.snd),fun p t h => d.sat (R.psh p t h),fun j p e h l => d.sat (R.past j p e h l),fun p e k q hi he hk => ?_⟩
  by_cases hkn:k < n
  . exact d.sat (R.now p e k q hi he hkn)
  . have:k = n:=by omega
    subst this
    have s:=O.ord i p e hi
    obtain ⟨t,o⟩:=e
    simp only at he
    subst he
    obtain ⟨r',e',a1,a2,a3,a4,a5⟩:=s
    rw [hr] at a1
    cases a1
    obtain ⟨j,hj⟩:=List.mem_iff_getElem?.mp a3
    rw [List.getElem?_take] at hj
    split at hj
    . rename_i hlt
      have sq:=R.past j q e' hj hlt
      subst a4
      rcases a2 with ⟨b1,b2⟩ | ⟨b1,b2⟩
      . subst b1 b2
        exact h2.dec.sat (h1.sat sq a5)
      . subst b1 b2
        exact h2.sat (h1.dec.sat sq) a5
    . cases hj
theorem Rnd.next {i:Nat} {f:α -> Option Rat} (O:FOrd net push tk F) (R:Rnd net push tk F i net.length f):Rnd net push tk F (i + 1) 0 f:=by
  refine ⟨R.snd,R.psh,fun j p e h l => ?_,fun _ _ _ _ _ _ h => absurd h (Nat.not_lt_zero _)⟩
  by_cases hj:j < i
  . exact R.past j p e h hj
  . have:j = i:=by omega
    subst this
    have s:=O.ord j p e h
    obtain ⟨t,o⟩:=e
    cases o with
    | none => exact R.psh p t s
    | some kq =>
      obtain ⟨k,q⟩:=kq
      obtain ⟨r',e',a1,_⟩:=id s
      exact R.now p _ k q h rfl (by
        have:=(List.getElem?_eq_some_iff.mp a1).1
        exact this)
theorem Rnd.done {i:Nat} {f:α -> Option Rat} (O:FOrd net push tk F) (R:Rnd net push tk F i 0 f) (hi:F.length <= i):f = momOf F:=by
  refine Falls.uniq (net:=net) (push:=push) (tk:=tk) ⟨R.snd,fun p t h => ?_⟩ O.falls
  obtain ⟨u,h1,h2⟩:=O.falls.le p t h
  unfold momOf at h1
  rw [Option.map_eq_some_iff] at h1
  obtain ⟨e,h3,rfl⟩:=h1
  obtain ⟨j,hj⟩:=List.mem_iff_getElem?.mp (aget_mem h3)
  have hlt:j < F.length:=(List.getElem?_eq_some_iff.mp hj).1
  obtain ⟨w,h4,h5⟩:=R.past j p e hj (by omega)
  exact ⟨w,h4,Rat.le_trans h5 h2⟩
end
end L2
namespace L2
section
variable {κ:Type} [DecidableEq κ]
noncomputable def lstep (m:AL κ Rat) (x:κ×Rat):AL κ Rat:=match aget m x.1 with
  | none => aput m x.1 x.2
  | some r => if x.2 < r then aput m x.1 x.2 else m
noncomputable def lst (l:List (κ×Rat)):AL κ Rat:=l.foldl lstep []
theorem lstep_mem {m:AL κ Rat} {x:κ×Rat} {k:κ} {q:Rat} (h:(k,q) ∈ lstep m x):(k,q) ∈ m ∨ (k,q) = x:=by
  unfold lstep at h
  split at h
  . rcases mem_aput h with ⟨rfl,rfl⟩ | ⟨_,h⟩
    . exact .inr rfl
    . exact .inl h
  . split at h
    . rcases mem_aput h with ⟨rfl,rfl⟩ | ⟨_,h⟩
      . exact .inr rfl
      . exact .inl h
    . exact .inl h
theorem lst_rev (P:AL κ Rat -> Prop) (l:List (κ×Rat)) (h0:P []) (hs:∀ m x,x ∈ l -> P m -> P (lstep m x)):P (lst l):=by
  unfold lst
  have:∀ (l':List (κ×Rat)) (m:AL κ Rat),(∀ x ∈ l',x ∈ l) -> P m -> P (l'.foldl lstep m):=by
    intro l'
    induction l' with
    | nil => intro m _ h; exact h
    | cons x r ih => intro m hl h; exact ih _ (fun y hy => hl y (List.mem_cons_of_mem _ hy)) (hs m x (hl x List.mem_cons_self) h)
  exact this l [] (fun x h => h) h0
theorem lst_mem {l:List (κ×Rat)} {x:κ×Rat} (h:x ∈ lst l):x ∈ l:=by
  refine lst_rev (fun m => ∀ y ∈ m,y ∈ l) l (by simp) (fun m x hx ih y hy => ?_) x h
  obtain ⟨k,q⟩:=y
  rcases lstep_mem hy with h | h
  . exact ih _ h
  . rw [h]; exact hx
end
end L2
namespace L2
end L2
namespace L2
open PySem PySem.Spec PyProof.Rows
section
variable {X:Cx} {a b:Expr} {ta tb td ty tv:TE} {pos:Pos} {rest:List Expr} {σ:St} {H H':Hp} {Q:VK} {D:Ends} {K:PySem.W.Frag} {w:World} {v x:V}
noncomputable def tOrT (K:PySem.W.Frag) (ta tb:TE):TE:=fun σ H Q => ta σ H fun x H1 => ∃ k,TruV K x H1 k /\ if k = true then Q x H1 else tb σ H1 Q
theorem r_orT (k:ta σ H fun x H1 => ∃ k,TruV K x H1 k /\ if k = true then Q x H1 else tb σ H1 Q):tOrT K ta tb σ H Q:=k
noncomputable def tTru (K:PySem.W.Frag) (ta:TE):TT:=fun σ H R => ta σ H fun x H' => ∃ k,TruV K x H' k /\ R k H'
theorem r_tru {R:Bool -> Hp -> Prop} (k:ta σ H fun x H' => ∃ k,TruV K x H' k /\ R k H'):tTru K ta σ H R:=k
theorem r_dnew (k:∀ p,H p = none -> Q (.ref p) (upd H p (.dK []))):tDNewK σ H Q:=k
noncomputable def dG (x y:V) (H:Hp) (Q:VK):Prop:=∃ a v,x = .ref a /\ DGet H a y (some v) /\ Q v H
theorem r_dget (k:td σ H fun x H1 => ty σ H1 fun y H2 => dG x y H2 Q):tDGet td ty σ H Q:=k
noncomputable def dI (y x:V) (H:Hp) (Q:VK):Prop:=∃ a o,x = .ref a /\ DGet H a y o /\ Q (.bl o.isSome) H
noncomputable def dN (y x:V) (H:Hp) (Q:VK):Prop:=∃ a o,x = .ref a /\ DGet H a y o /\ Q (.bl (!o.isSome)) H
theorem r_din (k:ty σ H fun y H1 => td σ H1 fun x H2 => dI y x H2 Q):tDIn ty td σ H Q:=k
theorem r_dnin (k:ty σ H fun y H1 => td σ H1 fun x H2 => dN y x H2 Q):tDNotIn ty td σ H Q:=k
noncomputable def dP (D:Ends) (σ:St) (v x y:V) (H:Hp):Prop:=∃ a H4,x = .ref a /\ DPut H a y v H4 /\ D.nx σ H4
theorem r_dput (k:tv σ H fun v H1 => td σ H1 fun x H2 => ty σ H2 fun y H3 => dP D σ v x y H3):sDPut td ty tv D σ H:=k
noncomputable def dG1 (ty:TE) (σ:St) (Q:VK) (x:V) (H1:Hp):Prop:=∃ a,x = .ref a /\ IsD H1 a /\ ty σ H1 fun y H2 => ∃ o,DGet H2 a y o /\ Q (o.getD .non) H2
theorem r_dget1 (k:td σ H (dG1 ty σ Q)):tDGet1 td ty σ H Q:=k
noncomputable def dG2 (ty tx:TE) (σ:St) (Q:VK) (x:V) (H1:Hp):Prop:=∃ a,x = .ref a /\ IsD H1 a /\ ty σ H1 fun y H2 => tx σ H2 fun z H3 => ∃ o,DGet H3 a y o /\ Q (o.getD z) H3
theorem r_dget2 {tx:TE} (k:td σ H (dG2 ty tx σ Q)):tDGet2 td ty tx σ H Q:=k
noncomputable def dpK (ty:TE) (σ:St) (Q:VK) (x:V) (H1:Hp):Prop:=∃ a,x = .ref a /\ IsD H1 a /\ ty σ H1 fun y H2 => ∃ kvs k v,H2 a = some (.dK kvs) /\ y = kV k /\ valV kvs k = some v /\ Q v (upd H2 a (.dK (dropK kvs k)))
theorem r_dpop1 (k:td σ H (dpK ty σ Q)):tDPop1 td ty σ H Q:=k
theorem IsD.k {p:Addr} {kvs:List (Key×V)} (h:Rd H p (.dK kvs)):IsD H p:=.inl ⟨kvs,h⟩
theorem r_forE {a:Addr} {xs:List V} {g:TG} {tb:TS} (Pv:Nat -> St -> Hp -> Prop) (h0:Pv 0 σ H) (hl:∀ i σ H,i <= xs.length -> Pv i σ H -> SqL K H a xs)
    (hs:∀ i x T σ H,xs[i]? = some x -> H T = none -> Pv i σ H -> g (.ref T) σ (upd H T (.tup [.int i,x])) fun σ2 H2 => tb ⟨Pv (i + 1),D.rt,D.nx,Pv (i + 1)⟩ σ2 H2) (hd:∀ σ H,Pv xs.length σ H -> D.nx σ H):forK g tb D σ (Ite K a) H:=by
  refine ⟨fun i m σ H => m = xs.length - i /\ i <= xs.length /\ Pv i σ H,⟨_,rfl,Nat.zero_le _,h0⟩,?_⟩
  rintro i m σ H ⟨rfl,hi,p⟩
  have q:=hl i σ H hi p
  by_cases hlt:i < xs.length
  . refine .inr ⟨⟨xs,xs[i],q,by simp [hlt]⟩,Pv (i + 1),fun σ' H' q => ⟨xs.length - (i + 1),by omega,rfl,hlt,q⟩,fun x H' y => ?_⟩
    obtain ⟨T,x',rfl,hT,rfl,e⟩:=y
    exact hs i x' T σ H (e xs q) hT p
  . have:i = xs.length:=by omega
    subst this
    exact .inl ⟨⟨xs,q,Nat.le_refl _⟩,hd σ H p⟩
theorem r_iEnum {tl:TA} {R:It -> Hp -> Prop} (k:tl σ H fun vs H1 => ∃ a,vs = [.ref a] /\ (∃ xs,SqL K H1 a xs) /\ R (Ite K a) H1):iEnum K tl σ H R:=k
theorem e_K {a:Addr} {xs:List V} {R:It -> Hp -> Prop} (h:H a = some (.lst xs)) (k:R (Ite K a) H):∃ a',[V.ref a] = [.ref a'] /\ (∃ xs,SqL K H a' xs) /\ R (Ite K a') H:=⟨a,rfl,⟨xs,SqL.of h⟩,k⟩
theorem r_gtup2 {p:Addr} {x y:V} {t:TGs} {R:St -> Hp -> Prop} (h:H p = some (.tup [x,y])) (k:t [x,y] σ H R):gTup K 2 t (.ref p) σ H R:=⟨p,_,rfl,SqT.of h,rfl,k⟩
theorem r_gtup3 {p:Addr} {x y z:V} {t:TGs} {R:St -> Hp -> Prop} (h:H p = some (.tup [x,y,z])) (k:t [x,y,z] σ H R):gTup K 3 t (.ref p) σ H R:=⟨p,_,rfl,SqT.of h,rfl,k⟩
theorem r_gtup4 {p:Addr} {x y z u:V} {t:TGs} {R:St -> Hp -> Prop} (h:H p = some (.tup [x,y,z,u])) (k:t [x,y,z,u] σ H R):gTup K 4 t (.ref p) σ H R:=⟨p,_,rfl,SqT.of h,rfl,k⟩
theorem r_gnil {R:St -> Hp -> Prop} (k:R σ H):gNil [] σ H R:=⟨rfl,k⟩
theorem r_gcons {t:TG} {u:TGs} {r:List V} {R:St -> Hp -> Prop} (k:t v σ H fun σ' H' => u r σ' H' R):gCons t u (v :: r) σ H R:=⟨v,r,rfl,k⟩
end
noncomputable def TK (H H':Hp):Prop:=∀ p xs,H p = some (.tup xs) -> H' p = some (.tup xs)
theorem TK.refl (H:Hp):TK H H:=fun _ _ h => h
theorem TK.trans {H H1 H2:Hp} (a:TK H H1) (b:TK H1 H2):TK H H2:=fun p xs h => b p xs (a p xs h)
theorem Same.tk {H H':Hp} (s:Same H H'):TK H H':=fun p xs h => s _ _ h
theorem TK.new {H:Hp} {q:Addr} {o:HO} (h:H q = none):TK H (upd H q o):=(Same.new h).tk
theorem TK.lst {H:Hp} {q:Addr} {o:HO} {ys:List V} (h:H q = some (.lst ys)):TK H (upd H q o):=fun p xs e => by rw [upd_ne (ne_of e h (by intro z; cases z))]; exact e
theorem TK.dic {H:Hp} {q:Addr} {o:HO} {ys:List (Key×V)} (h:H q = some (.dK ys)):TK H (upd H q o):=fun p xs e => by rw [upd_ne (ne_of e h (by intro z; cases z))]; exact e
theorem TK.frz {H:Hp} {q:Addr} {o:HO} {ob:Obj} {u:HO} (h:H q = some (.frz ob u)):TK H (upd H q o):=fun p xs e => by rw [upd_ne (ne_of e h (by intro z; cases z))]; exact e
theorem TK.melt {H:Hp} {a:Addr}:TK H (melt a H):=fun p xs e => melt_old (fun _ _ z => nomatch z) e
theorem St3.tk {H H':Hp} {p:Addr} {n:Int} (s:St3 H p n) (k:Kp p H H'):TK H H':=fun q xs e => k _ _ (s.ne e) e
noncomputable def FrQ (H:Hp) (v:V) (q:Rat):Prop:=∃ p,v = .ref p /\ H p = some (.tup [.int q.num,.int q.den])
theorem FrQ.tk {H H':Hp} {v:V} {q:Rat} (h:FrQ H v q) (t:TK H H'):FrQ H' v q:=let ⟨p,e,h⟩:=h; ⟨p,e,t _ _ h⟩
noncomputable def KvQ (H:Hp) (v:V) (x:Key×Rat):Prop:=∃ p u,v = .ref p /\ H p = some (.tup [kV x.1,u]) /\ FrQ H u x.2
theorem KvQ.tk {H H':Hp} {v:V} {x:Key×Rat} (h:KvQ H v x) (t:TK H H'):KvQ H' v x:=let ⟨p,u,e,h,f⟩:=h; ⟨p,u,e,t _ _ h,f.tk t⟩
noncomputable def RunQ (H:Hp) (v:V) (r:Key×Key×Rat):Prop:=∃ p u,v = .ref p /\ H p = some (.tup [kV r.1,kV r.2.1,u]) /\ FrQ H u r.2.2
theorem RunQ.tk {H H':Hp} {v:V} {r:Key×Key×Rat} (h:RunQ H v r) (t:TK H H'):RunQ H' v r:=let ⟨p,u,e,h,f⟩:=h; ⟨p,u,e,t _ _ h,f.tk t⟩
noncomputable def EntQ (H:Hp) (v:V) (e:Rat×Option (Nat×Key)):Prop:=∃ p u,v = .ref p /\ H p = some (.tup [u,(match e.2 with | none => .non | some kq => .int kq.1),(match e.2 with | none => .non | some kq => kV kq.2)]) /\ FrQ H u e.1
theorem EntQ.tk {H H':Hp} {v:V} {e:Rat×Option (Nat×Key)} (h:EntQ H v e) (t:TK H H'):EntQ H' v e:=let ⟨p,u,a,h,f⟩:=h; ⟨p,u,a,t _ _ h,f.tk t⟩
noncomputable def NpQ (H:Hp) (v:V) (x:Nat×Key):Prop:=∃ p,v = .ref p /\ H p = some (.tup [.int x.1,kV x.2])
theorem NpQ.tk {H H':Hp} {v:V} {x:Nat×Key} (h:NpQ H v x) (t:TK H H'):NpQ H' v x:=let ⟨p,e,h⟩:=h; ⟨p,e,t _ _ h⟩
section
variable {α β:Type} {F G:α -> β -> Prop}
theorem Pd.imp:∀ {l:List α} {m:List β},Paired F l m -> (∀ a b,F a b -> G a b) -> Paired G l m
  | _,_,.nil,_ => .nil
  | _,_,.cons r t,f => .cons (f _ _ r) (Pd.imp t f)
theorem Pd.snoc:∀ {l:List α} {m:List β} {a:α} {b:β},Paired F l m -> F a b -> Paired F (l ++ [a]) (m ++ [b])
  | _,_,_,_,.nil,r => .cons r .nil
  | _,_,_,_,.cons q t,r => .cons q (Pd.snoc t r)
theorem Pd.get:∀ {l:List α} {m:List β} {i:Nat} {b:β},Paired F l m -> m[i]? = some b -> ∃ a,l[i]? = some a /\ F a b
  | _,_,_,_,.nil,e => by simp at e
  | _,_,0,_,.cons r _,e => by simp at e; subst e; exact ⟨_,rfl,r⟩
  | _,_,i + 1,b,.cons _ t,e => by
    obtain ⟨y,h1,h2⟩:=Pd.get (i:=i) (b:=b) t (by simpa using e)
    exact ⟨y,by simpa using h1,h2⟩
end
noncomputable def LQ {β:Type} (R:Hp -> V -> β -> Prop) (H:Hp) (l:Addr) (ds:List β):Prop:=∃ vs,H l = some (.lst vs) /\ Paired (R H) vs ds
noncomputable def KQ {β:Type} (R:Hp -> V -> β -> Prop) (H:Hp) (kvs:List (Key×V)) (m:List (Key×β)):Prop:=Paired (fun kv ab => kv.1 = ab.1 /\ R H kv.2 ab.2) kvs m
noncomputable def DQ {β:Type} (R:Hp -> V -> β -> Prop) (H:Hp) (d:Addr) (m:List (Key×β)):Prop:=∃ kvs,H d = some (.dK kvs) /\ KQ R H kvs m
section
variable {β:Type} {R:Hp -> V -> β -> Prop} {H H':Hp} {l d:Addr} {ds:List β} {m:List (Key×β)} {kvs:List (Key×V)}
theorem LQ.same (h:LQ R H l ds) (hR:∀ v b,R H v b -> R H' v b) (s:Same H H'):LQ R H' l ds:=let ⟨vs,a,b⟩:=h; ⟨vs,s _ _ a,Pd.imp b hR⟩
theorem LQ.at (h:LQ R H l ds) (hR:∀ v b,R H v b -> R H' v b) (s:H' l = H l):LQ R H' l ds:=let ⟨vs,a,b⟩:=h; ⟨vs,s.trans a,Pd.imp b hR⟩
theorem KQ.imp {R':Hp -> V -> β -> Prop} (h:KQ R H kvs m) (hR:∀ v b,R H v b -> R' H' v b):KQ R' H' kvs m:=Pd.imp h fun _ _ q => ⟨q.1,hR _ _ q.2⟩
theorem KQ.len (h:KQ R H kvs m):kvs.length = m.length:=Paired.length h
theorem KQ.any {k:Key}:∀ {kvs:List (Key×V)} {m:List (Key×β)},KQ R H kvs m -> (kvs.any fun kv => decide (kv.1 = k)) = m.any fun kv => decide (kv.1 = k)
  | _,_,.nil => rfl
  | _,_,.cons r t => by rw [List.any_cons,List.any_cons,r.1,KQ.any t]
theorem KQ.drop {k:Key}:∀ {kvs:List (Key×V)} {m:List (Key×β)},KQ R H kvs m -> KQ R H (dropK kvs k) (adrop m k)
  | _,_,.nil => .nil
  | _,_,.cons (a:=p) (b:=q) (l₁:=as) (l₂:=bs) r t => by
    have ih:=KQ.drop (k:=k) t
    by_cases e:p.1 = k
    . have h1:dropK (p :: as) k = dropK as k:=dropK_pos e
      rw [h1]
      have h2:adrop (q :: bs) k = adrop bs k:=by unfold adrop; rw [List.filter_cons]; simp [show q.1 = k from r.1 ▸ e]
      rw [h2]
      exact ih
    . have h1:dropK (p :: as) k = p :: dropK as k:=dropK_neg e
      rw [h1]
      have h2:adrop (q :: bs) k = q :: adrop bs k:=by unfold adrop; rw [List.filter_cons]; simp [show ¬ q.1 = k from fun z => e (r.1.trans z)]
      rw [h2]
      exact .cons r ih
end
theorem i_sN {β:Type} {A B:Prop} (k:B):if (none:Option β).isSome = true then A else B:=k
theorem i_sS {β:Type} {b:β} {A B:Prop} (k:A):if (some b).isSome = true then A else B:=k
theorem r_nxD {D:Ends} {σ:St} {H:Hp} (k:D.nx σ H):D.nx σ H:=k
theorem r_rtD {D:Ends} {v:V} {H:Hp} (k:D.rt v H):D.rt v H:=k
theorem r_bkD {D:Ends} {σ:St} {H:Hp} (k:D.bk σ H):D.bk σ H:=k
theorem r_ctD {D:Ends} {σ:St} {H:Hp} (k:D.ct σ H):D.ct σ H:=k
theorem r_dmN {a:Addr} {D:Ends} {σ:St} {H:Hp} (k:D.nx σ (melt a H)):(Dm a D).nx σ H:=k
theorem r_dmR {a:Addr} {D:Ends} {v:V} {H:Hp} (k:D.rt v (melt a H)):(Dm a D).rt v H:=k
theorem Room.u1 {k:Nat} {A:Around} (r:Room k A):A.units + 1 < cLine:=by have:=r.units; omega
section
variable {X:Cx} {σ:St} {H H':Hp} {Q:VK} {K:PySem.W.Frag} {v x y:V} {w:World}
theorem Same.app {b:Addr} {o:HO} (s:Same H H') (h:H b = some o):H' b = some o:=s _ _ h
theorem Kp.app {p b:Addr} {o:HO} (s:Kp p H H') (n:b ≠ p) (h:H b = some o):H' b = some o:=s _ _ n h
theorem upd_not {q b:Addr} {o u:HO} (n:b ≠ q) (h:H b = some u):upd H q o b = some u:=by rw [upd_ne n]; exact h
noncomputable def rIsN:R2:=fun x y H Q => y = .non /\ Q (.bl (decide (x = .non))) H
noncomputable def rNotN:R2:=fun x y H Q => y = .non /\ Q (.bl (!decide (x = .non))) H
theorem op_isN2:OpR X (compareOp .Is) rIsN:=op_isN
theorem r_isNr {p:Addr} (k:Q (.bl false) H):rIsN (.ref p) .non H Q:=⟨rfl,k⟩
theorem r_isNn (k:Q (.bl true) H):rIsN .non .non H Q:=⟨rfl,k⟩
theorem r_isNs {s:Str} (k:Q (.bl false) H):rIsN (.str s) .non H Q:=⟨rfl,k⟩
theorem r_isNi {i:Int} (k:Q (.bl false) H):rIsN (.int i) .non H Q:=⟨rfl,k⟩
theorem r_isNk {c:Key} (k:Q (.bl false) H):rIsN (kV c) .non H Q:=⟨rfl,by cases c <;> exact k⟩
theorem r_noNr {p:Addr} (k:Q (.bl true) H):rNotN (.ref p) .non H Q:=⟨rfl,k⟩
theorem r_noNn (k:Q (.bl false) H):rNotN .non .non H Q:=⟨rfl,k⟩
theorem r_noNs {s:Str} (k:Q (.bl true) H):rNotN (.str s) .non H Q:=⟨rfl,k⟩
noncomputable def bmK (K:PySem.W.Frag) (T:String) (r:V -> List V -> Hp -> VK -> Prop) (t:TA) (σ:St) (Q:VK):VK:=fun x H1 => tyV K T x H1 /\ t σ H1 fun xs H2 => r x xs H2 Q
theorem r_bm {T:String} {r:V -> List V -> Hp -> VK -> Prop} {to:TE} {t:TA} (k:to σ H (bmK K T r t σ Q)):tBM K T r to t σ H Q:=k
noncomputable def bm0K (K:PySem.W.Frag) (T:String) (r:V -> List V -> Hp -> VK -> Prop) (Q:VK):VK:=fun x H1 => tyV K T x H1 /\ r x [] H1 Q
theorem r_bm0 {T:String} {r:V -> List V -> Hp -> VK -> Prop} {to:TE} (k:to σ H (bm0K K T r Q)):tBM0 K T r to σ H Q:=k
theorem r_bmL {r:V -> List V -> Hp -> VK -> Prop} {t:TA} {l:Addr} {xs:List V} (h:H l = some (.lst xs)) (k:t σ H fun vs H2 => r (.ref l) vs H2 Q):bmK K "list" r t σ Q (.ref l) H:=⟨.inl ⟨rfl,xs,SqL.of h⟩,k⟩
theorem r_bmD {r:V -> List V -> Hp -> VK -> Prop} {t:TA} {l:Addr} {xs:List (Key×V)} (h:H l = some (.dK xs)) (k:t σ H fun vs H2 => r (.ref l) vs H2 Q):bmK K "dict" r t σ Q (.ref l) H:=⟨.inr (.inr (.inl ⟨rfl,.inl ⟨xs,h⟩⟩)),k⟩
theorem r_bm0D {r:V -> List V -> Hp -> VK -> Prop} {l:Addr} {xs:List (Key×V)} (h:H l = some (.dK xs)) (k:r (.ref l) [] H Q):bm0K K "dict" r Q (.ref l) H:=⟨.inr (.inr (.inl ⟨rfl,.inl ⟨xs,h⟩⟩)),k⟩
theorem r_bmS {r:V -> List V -> Hp -> VK -> Prop} {t:TA} {s:Str} (k:t σ H fun vs H2 => r (.str s) vs H2 Q):bmK K "str" r t σ Q (.str s) H:=⟨rfl,k⟩
theorem r_app {l:Addr} {xs:List V} (h:H l = some (.lst xs)) (hl:xs.length <= 1000) (k:Q .non (upd H l (.lst (xs ++ [y])))):rAppend (.ref l) [y] H Q:=⟨l,xs,y,rfl,rfl,h,small1000 hl,k⟩
theorem r_ext {l b:Addr} {xs zs:List V} (h:H l = some (.lst xs)) (h2:H b = some (.lst zs)) (hl:xs.length + zs.length <= 1000) (k:Q .non (upd H l (.lst (xs ++ zs)))):rExtend (.ref l) [.ref b] H Q:=⟨l,b,xs,zs,rfl,rfl,h,h2,le_line hl,k⟩
theorem NoFrz.dK {a:Addr} {kvs:List (Key×V)} (h:H a = some (.dK kvs)):NoFrz H a:=fun o u e => by rw [h] at e; cases e
theorem NoFrz.none {a:Addr} (h:H a = none):NoFrz H a:=fun o u e => by rw [h] at e; cases e
end
end L2
namespace L2
open PySem PySem.Spec PyProof.Rows
theorem valV_snoc2 {kvs:List (Key×V)} {p q:Key} {v:V} (h:valV kvs p = none):valV (kvs ++ [(p,v)]) q = if q = p then some v else valV kvs q:=by
  by_cases e:q = p
  . subst e
    rw [if_pos rfl]
    induction kvs with
    | nil => exact valV_pos rfl
    | cons kv r ih =>
      by_cases z:kv.1 = q
      . rw [valV_pos z] at h; cases h
      . rw [valV_neg z] at h
        rw [List.cons_append,valV_neg z]
        exact ih h
  . rw [if_neg e]
    clear h
    induction kvs with
    | nil => exact valV_neg (fun z => e z.symm)
    | cons kv r ih =>
      by_cases z:kv.1 = q
      . rw [List.cons_append,valV_pos z,valV_pos z]
      . rw [List.cons_append,valV_neg z,valV_neg z]
        exact ih
structure BI (H H1:Hp) (d:Addr) (f:Key -> List (Nat×Key)) (n:Nat):Prop where
  same:Same H H1
  dn:H d = none
  ex:∃ kvs,H1 d = some (.dK kvs) /\ kvs.length <= n /\ (∀ p,valV kvs p = none -> f p = []) /\ (∀ p v,valV kvs p = some v -> ∃ l,v = .ref l /\ H l = none /\ LQ NpQ H1 l (f p)) /\ ∀ p q l,valV kvs p = some (.ref l) -> valV kvs q = some (.ref l) -> p = q
noncomputable def bs1 (f:Key -> List (Nat×Key)) (p:Key) (x:Nat×Key):Key -> List (Nat×Key):=fun q => if q = p then f q ++ [x] else f q
theorem BI.start {H:Hp} {d:Addr} (h:H d = none):BI H (upd H d (.dK [])) d (fun _ => []) 0 :=
  ⟨Same.new h,h,[],upd_same,Nat.le_refl _,fun _ _ => rfl,fun p v e => (by cases e),fun p q l e => (by cases e)⟩
theorem NpQ.imp {H H':Hp} (t:TK H H'):∀ v b,NpQ H v b -> NpQ H' v b:=fun v b h => h.tk t
theorem BI.alloc {H H1:Hp} {d q:Addr} {o:HO} {f:Key -> List (Nat×Key)} {n:Nat} (B:BI H H1 d f n) (h:H1 q = none):BI H (upd H1 q o) d f n:=by
  obtain ⟨kvs,a,b,c,e,g⟩:=B.ex
  refine ⟨B.same.trans (Same.new h),B.dn,kvs,upd_old h a,b,c,fun p v z => ?_,g⟩
  obtain ⟨l,rfl,hl,q⟩:=e p v z
  exact ⟨l,rfl,hl,q.same (NpQ.imp (TK.new h)) (Same.new h)⟩
theorem BI.old {H H1:Hp} {d l t:Addr} {p:Key} {x:Nat×Key} {f:Key -> List (Nat×Key)} {n:Nat} {kvs:List (Key×V)} {xs:List V} (B:BI H H1 d f n) (hd:H1 d = some (.dK kvs)) (hv:valV kvs p = some (.ref l)) (hl:H1 l = some (.lst xs)) (ht:H1 t = some (.tup [.int x.1,kV x.2])) :
    BI H (upd H1 l (.lst (xs ++ [.ref t]))) d (bs1 f p x) n:=by
  obtain ⟨kvs',a,b,c,e,g⟩:=B.ex
  rw [hd] at a
  cases a
  have tk:TK H1 (upd H1 l (.lst (xs ++ [.ref t]))):=TK.lst hl
  obtain ⟨l',e1,hln,ys,hy,py⟩:=e p _ hv
  cases e1
  rw [hl] at hy
  cases hy
  refine ⟨fun b o h => ?_,B.dn,kvs,?_,b,fun q z => ?_,fun q v z => ?_,g⟩
  . rw [upd_ne (ne_of_none h hln)]
    exact B.same _ _ h
  . rw [upd_ne (ne_of hd hl (by intro z; cases z))]
    exact hd
  . have hq:q ≠ p:=fun w => by subst w; rw [hv] at z; cases z
    show (if q = p then _ else _) = _
    rw [if_neg hq]
    exact c q z
  . obtain ⟨m,rfl,hm,zs,hz,pz⟩:=e q v z
    by_cases hq:q = p
    . subst hq
      rw [hv] at z
      cases z
      refine ⟨l,rfl,hln,xs ++ [.ref t],upd_same,?_⟩
      show Paired _ _ (if q = q then _ else _)
      rw [if_pos rfl]
      exact Pd.snoc (Pd.imp py (NpQ.imp tk)) ⟨t,rfl,tk _ _ ht⟩
    . refine ⟨m,rfl,hm,zs,?_,?_⟩
      . have:m ≠ l:=fun w => by subst w; exact hq (g _ _ _ z hv)
        rw [upd_ne this]
        exact hz
      . show Paired _ _ (if q = p then _ else _)
        rw [if_neg hq]
        exact Pd.imp pz (NpQ.imp tk)
theorem BI.key {H H1:Hp} {d l:Addr} {p:Key} {f:Key -> List (Nat×Key)} {n:Nat} {kvs:List (Key×V)} (B:BI H H1 d f n) (hd:H1 d = some (.dK kvs)) (hv:valV kvs p = none) (hl:H1 l = some (.lst [])) (hn:H l = none) (hf:∀ q,valV kvs q ≠ some (.ref l)) :
    BI H (upd H1 d (.dK (kvs ++ [(p,.ref l)]))) d f (n + 1):=by
  obtain ⟨kvs',a,b,c,e,g⟩:=B.ex
  rw [hd] at a
  cases a
  have tk:TK H1 (upd H1 d (.dK (kvs ++ [(p,.ref l)]))):=TK.dic hd
  refine ⟨fun b o h => ?_,B.dn,kvs ++ [(p,.ref l)],upd_same,by simp; exact b,fun q z => ?_,fun q v z => ?_,fun q r m z1 z2 => ?_⟩
  . rw [upd_ne (ne_of_none h B.dn)]
    exact B.same _ _ h
  . rw [valV_snoc2 hv] at z
    by_cases hq:q = p
    . rw [if_pos hq] at z; cases z
    . rw [if_neg hq] at z; exact c q z
  . rw [valV_snoc2 hv] at z
    by_cases hq:q = p
    . rw [if_pos hq] at z
      cases z
      subst hq
      refine ⟨l,rfl,hn,[],?_,?_⟩
      . rw [upd_ne (ne_of hl hd (by intro z; cases z))]; exact hl
      . rw [c q hv]; exact .nil
    . rw [if_neg hq] at z
      obtain ⟨m,rfl,hm,zs,hz,pz⟩:=e q v z
      refine ⟨m,rfl,hm,zs,?_,Pd.imp pz (NpQ.imp tk)⟩
      rw [upd_ne (ne_of hz hd (by intro z; cases z))]; exact hz
  . rw [valV_snoc2 hv] at z1 z2
    by_cases h1:q = p <;> by_cases h2:r = p
    . rw [h1,h2]
    . rw [if_pos h1] at z1; rw [if_neg h2] at z2
      cases z1
      exact absurd z2 (hf r)
    . rw [if_neg h1] at z1; rw [if_pos h2] at z2
      cases z2
      exact absurd z1 (hf q)
    . rw [if_neg h1] at z1; rw [if_neg h2] at z2
      exact g q r m z1 z2
theorem BI.mono {H H1:Hp} {d:Addr} {f:Key -> List (Nat×Key)} {m n:Nat} (B:BI H H1 d f m) (h:m <= n):BI H H1 d f n:=by
  obtain ⟨kvs,a,b,c⟩:=B.ex
  exact ⟨B.same,B.dn,kvs,a,Nat.le_trans b h,c⟩
theorem BI.non {H H1:Hp} {d l:Addr} {f:Key -> List (Nat×Key)} {n:Nat} (B:BI H H1 d f n) (h:H1 l = none):H l = none:=by
  cases e:H l with
  | none => rfl
  | some o => rw [B.same _ _ e] at h; cases h
theorem BI.more {H H1:Hp} {d l q t:Addr} {p:Key} {x:Nat×Key} {f:Key -> List (Nat×Key)} {n:Nat} {kvs:List (Key×V)} {xs:List V} (B:BI H H1 d f n) (hd:H1 d = some (.dK kvs)) (hv:valV kvs p = some (.ref l)) (hl:H1 l = some (.lst xs)) (hq:H1 q = none) (ht:upd H1 q (.lst []) t = none) :
    BI H (upd (upd (upd H1 q (.lst [])) t (.tup [.int x.1,kV x.2])) l (.lst (xs ++ [.ref t]))) d (bs1 f p x) (n + 1) :=
  (((B.alloc hq).alloc ht).old (upd_old ht (upd_old hq hd)) hv (upd_old ht (upd_old hq hl)) upd_same).mono (Nat.le_succ _)
theorem BI.new {H H1:Hp} {d l t:Addr} {p:Key} {x:Nat×Key} {f:Key -> List (Nat×Key)} {n:Nat} {kvs:List (Key×V)} (B:BI H H1 d f n) (hd:H1 d = some (.dK kvs)) (hv:valV kvs p = none) (hl:H1 l = none) (ht:upd (upd H1 l (.lst [])) d (.dK (kvs ++ [(p,.ref l)])) t = none) :
    BI H (upd (upd (upd (upd H1 l (.lst [])) d (.dK (kvs ++ [(p,.ref l)]))) t (.tup [.int x.1,kV x.2])) l (.lst ([] ++ [.ref t]))) d (bs1 f p x) (n + 1):=by
  have hdl:l ≠ d:=fun z => by subst z; rw [hl] at hd; cases hd
  have B1:=(B.alloc (o:=.lst []) hl).key (l:=l) (upd_old hl hd) hv upd_same (B.non hl) (fun q z => by
    obtain ⟨kvs',a,_,_,e,_⟩:=B.ex
    rw [hd] at a
    cases a
    obtain ⟨m,e1,_,zs,hz,_⟩:=e q _ z
    cases e1
    rw [hl] at hz
    cases hz)
  exact (B1.alloc ht).old (upd_old ht upd_same) (by rw [valV_snoc2 hv,if_pos rfl]) (upd_old ht (by rw [upd_ne hdl]; exact upd_same)) upd_same
noncomputable def BsOf (net:List (RunD Key)) (i:Nat) (f:Key -> List (Nat×Key)):Prop:=∀ q k x,(k,x) ∈ f q ↔ k < i /\ ∃ r,net[k]? = some r /\ Jn r q x
theorem BsOf.zero {net:List (RunD Key)}:BsOf net 0 (fun _ => []):=fun q k x => ⟨fun h => by simp at h,fun h => absurd h.1 (Nat.not_lt_zero _)⟩
theorem BsOf.next {net:List (RunD Key)} {i:Nat} {f:Key -> List (Nat×Key)} {r:RunD Key} (h:BsOf net i f) (hr:net[i]? = some r):BsOf net (i + 1) (bs1 (bs1 f r.1 (i,r.2.1)) r.2.1 (i,r.1)):=by
  intro q k x
  have key:(k,x) ∈ bs1 (bs1 f r.1 (i,r.2.1)) r.2.1 (i,r.1) q ↔ (k,x) ∈ f q ∨ (q = r.1 /\ k = i /\ x = r.2.1) ∨ (q = r.2.1 /\ k = i /\ x = r.1):=by
    unfold bs1
    split <;> split <;> simp_all
  rw [key,h q k x]
  constructor
  . rintro (⟨h1,h2⟩ | ⟨rfl,rfl,rfl⟩ | ⟨rfl,rfl,rfl⟩)
    . exact ⟨by omega,h2⟩
    . exact ⟨by omega,r,hr,.inl ⟨rfl,rfl⟩⟩
    . exact ⟨by omega,r,hr,.inr ⟨rfl,rfl⟩⟩
  . rintro ⟨h1,r',h2,h3⟩
    by_cases hk:k = i
    . subst hk
      rw [hr] at h2
      cases h2
      rcases h3 with ⟨rfl,rfl⟩ | ⟨rfl,rfl⟩
      . exact .inr (.inl ⟨rfl,rfl,rfl⟩)
      . exact .inr (.inr ⟨rfl,rfl,rfl⟩)
    . exact .inl ⟨by omega,r',h2,h3⟩
noncomputable def Bes (H:Hp) (d:Addr) (net:List (RunD Key)):Prop:=∃ kvs f,H d = some (.dK kvs) /\ BsOf net net.length f /\ (∀ q,(f q).length <= 2 * net.length) /\ (∀ p,valV kvs p = none -> f p = []) /\ ∀ p v,valV kvs p = some v -> ∃ l,v = .ref l /\ LQ NpQ H l (f p)
theorem nd_len {α:Type} [DecidableEq α]:∀ {l m:List α},l.Nodup -> (∀ x ∈ l,x ∈ m) -> l.length <= m.length
  | [],_,_,_ => Nat.zero_le _
  | a :: l,m,nd,h => by
    rw [List.nodup_cons] at nd
    have ha:=h a (by simp)
    have:=nd_len (l:=l) (m:=m.erase a) nd.2 fun x hx => by
      have hne:x ≠ a:=fun z => nd.1 (by rw [← z]; exact hx)
      exact (List.mem_erase_of_ne hne).mpr (h x (by simp [hx]))
    have h2:=List.length_erase_of_mem ha
    have h3:0 < m.length:=List.length_pos_of_mem ha
    rw [List.length_cons]
    omega
section
variable {te:TE} {Q:VK} {H:Hp} {caps:St}
end
noncomputable def Kp2 (a b:Addr) (H H':Hp):Prop:=∀ c o,c ≠ a -> c ≠ b -> H c = some o -> H' c = some o
theorem Kp2.refl {a b:Addr} (H:Hp):Kp2 a b H H:=fun _ _ _ _ h => h
theorem Kp2.trans {a b:Addr} {H H1 H2:Hp} (x:Kp2 a b H H1) (y:Kp2 a b H1 H2):Kp2 a b H H2:=fun c o h1 h2 h => y c o h1 h2 (x c o h1 h2 h)
theorem Kp2.l {a b:Addr} {H:Hp} {o:HO}:Kp2 a b H (upd H a o):=fun c u h1 _ h => by rw [upd_ne h1]; exact h
theorem Kp2.r {a b:Addr} {H:Hp} {o:HO}:Kp2 a b H (upd H b o):=fun c u _ h2 h => by rw [upd_ne h2]; exact h
theorem Kp2.tk {a b:Addr} {H H':Hp} {x y:List (Key×V)} (k:Kp2 a b H H') (ha:H a = some (.dK x)) (hb:H b = some (.dK y)):TK H H':=fun p xs h => k p _ (ne_of h ha (by intro z; cases z)) (ne_of h hb (by intro z; cases z)) h
theorem Kp2.lst {a b p:Addr} {H H':Hp} {x y:List (Key×V)} {xs:List V} (k:Kp2 a b H H') (ha:H a = some (.dK x)) (hb:H b = some (.dK y)) (h:H p = some (.lst xs)):H' p = some (.lst xs):=k p _ (ne_of h ha (by intro z; cases z)) (ne_of h hb (by intro z; cases z)) h
theorem Kp2.same {a b:Addr} {H0 H H':Hp} (k:Kp2 a b H H') (s:Same H0 H) (ha:H0 a = none) (hb:H0 b = none):Same H0 H':=fun c o h => k c o (ne_of_none h ha) (ne_of_none h hb) (s _ _ h)
structure NetIn (H:Hp) (l:Addr) (net:List (RunD Key)) (D M:Nat):Prop where
  lq:LQ RunQ H l net
  len:net.length <= 120
  bd:∀ r ∈ net,Bd D M r.2.2
  pos:∀ r ∈ net,0 < r.2.2
structure PsIn (H:Hp) (l:Addr) (ps:List (Key×Rat)) (D M:Nat):Prop where
  lq:LQ KvQ H l ps
  len:ps.length <= 100
  bd:∀ r ∈ ps,Bd D M r.2
structure TsIn (H:Hp) (v:V) (ts:List (Key×Rat)):Prop where
  lq:(v = .non /\ ts = []) ∨ ∃ l,v = .ref l /\ LQ KvQ H l ts
  len:ts.length <= 100
  sz:∀ r ∈ ts,Sz 8000 r.2
structure Room8 (D M:Nat):Prop where
  ne:D ≠ 0
  d:D < 2 ^ 8000
  m:M * 1000 * D < 2 ^ 8000
theorem Room8.sz {D M N:Nat} {q:Rat} (R:Room8 D M) (h:Bd D N q) (hn:N <= M * 1000):Sz 8000 q:=h.sz R.ne R.d (Nat.lt_of_le_of_lt (Nat.mul_le_mul_right _ hn) R.m)
theorem LQ.sm {β:Type} {R:Hp -> V -> β -> Prop} {H H':Hp} {l:Addr} {ds:List β} (h:LQ R H l ds) (hR:∀ {H H' v b},R H v b -> TK H H' -> R H' v b) (s:Same H H'):LQ R H' l ds:=h.same (fun v b q => hR q s.tk) s
theorem DQ.sm {β:Type} {R:Hp -> V -> β -> Prop} {H H':Hp} {l:Addr} {ds:List (Key×β)} (h:DQ R H l ds) (hR:∀ {H H' v b},R H v b -> TK H H' -> R H' v b) (s:Same H H'):DQ R H' l ds:=let ⟨k,a,b⟩:=h; ⟨k,s _ _ a,b.imp fun v b q => hR q s.tk⟩
theorem NetIn.sm {H H':Hp} {l:Addr} {net:List (RunD Key)} {D M:Nat} (h:NetIn H l net D M) (s:Same H H'):NetIn H' l net D M:=⟨h.lq.sm RunQ.tk s,h.len,h.bd,h.pos⟩
theorem PsIn.sm {H H':Hp} {l:Addr} {ps:List (Key×Rat)} {D M:Nat} (h:PsIn H l ps D M) (s:Same H H'):PsIn H' l ps D M:=⟨h.lq.sm KvQ.tk s,h.len,h.bd⟩
theorem TsIn.sm {H H':Hp} {v:V} {ts:List (Key×Rat)} (h:TsIn H v ts) (s:Same H H'):TsIn H' v ts:=⟨h.lq.imp id fun ⟨l,e,q⟩ => ⟨l,e,q.sm KvQ.tk s⟩,h.len,h.sz⟩
theorem Bes.k2 {H H':Hp} {d a b:Addr} {net:List (RunD Key)} {x y:List (Key×V)} (h:Bes H d net) (k:Kp2 a b H H') (ha:H a = some (.dK x)) (hb:H b = some (.dK y)) (h1:d ≠ a) (h2:d ≠ b):Bes H' d net:=by
  obtain ⟨kvs,f,z1,z2,z3,z4,z5⟩:=h
  refine ⟨kvs,f,k _ _ h1 h2 z1,z2,z3,z4,fun p v e => ?_⟩
  obtain ⟨l,rfl,vs,q1,q2⟩:=z5 p v e
  exact ⟨l,rfl,vs,k.lst ha hb q1,Pd.imp q2 (NpQ.imp (k.tk ha hb))⟩
theorem Bes.sm {H H':Hp} {d:Addr} {net:List (RunD Key)} (h:Bes H d net) (s:Same H H'):Bes H' d net:=by
  obtain ⟨kvs,f,z1,z2,z3,z4,z5⟩:=h
  exact ⟨kvs,f,s _ _ z1,z2,z3,z4,fun p v e => let ⟨l,a,q⟩:=z5 p v e; ⟨l,a,q.sm NpQ.tk s⟩⟩
section
variable {σ:St} {H:Hp} {Q:VK} {K:PySem.W.Frag}
end
theorem FInv.imp {net:List (RunD Key)} {push:Key -> Option Rat} {tk:Nat -> Option Rat} {C C':Key -> Nat -> Key -> Prop} {W F:AL Key (EntD Key)} (I:FInv net push tk C W F) (h:∀ q k x r,net[k]? = some r -> Jn r q x -> C' q k x -> C q k x):FInv net push tk C' W F :=
  ⟨I.ndW,I.ndF,I.dis,I.sup,I.ord,I.mono,I.psh,fun q e hq k r p h1 h2 h3 h4 => I.clo q e hq k r p h1 h2 (h q k p r h1 h2 h3) h4⟩
noncomputable def univ (net:List (RunD Key)) (ps:List (Key×Rat)):List Key:=ps.map (·.1) ++ (net.map (·.1) ++ net.map (·.2.1))
theorem Sup.univ {net:List (RunD Key)} {ps:List (Key×Rat)} {tk:Nat -> Option Rat} {F:AL Key (EntD Key)} {p:Key} {e:EntD Key} (h:Sup net (aget (lst ps)) tk F p e):p ∈ univ net ps:=by
  obtain ⟨t,o⟩:=e
  cases o with
  | none =>
    have:=lst_mem (aget_mem (show aget (lst ps) p = some t from h))
    exact List.mem_append_left _ (List.mem_map.mpr ⟨_,this,rfl⟩)
  | some kq =>
    obtain ⟨r,e,h1,h2,_⟩:=h
    have hr:=List.mem_of_getElem? h1
    refine List.mem_append_right _ ?_
    rcases h2 with ⟨_,rfl⟩ | ⟨_,rfl⟩
    . exact List.mem_append_right _ (List.mem_map.mpr ⟨r,hr,rfl⟩)
    . exact List.mem_append_left _ (List.mem_map.mpr ⟨r,hr,rfl⟩)
theorem ix_LTc {X:Cx} {scope:Scope} {caps:List (Str×Addr)} {N:List Str} {C:Addr} {s0:Shared} {H0:Hp} {ex:List Addr}:IxR (cxComp X scope caps N C s0 H0 ex) (rIxLT X.K):=ix_LT
noncomputable abbrev TRun:=Str×Str×Rat
noncomputable def kn (n:List TRun):List (RunD Key):=n.map fun r => (Sum.inr r.1,Sum.inr r.2.1,r.2.2)
noncomputable def names (n:List TRun):List Str:=n.map (·.1) ++ n.map (·.2.1)
theorem kn_at {n:List TRun} {i:Nat} {r:RunD Key} (h:(kn n)[i]? = some r):∃ s,n[i]? = some s /\ r = (Sum.inr s.1,Sum.inr s.2.1,s.2.2):=by
  unfold kn at h
  rw [List.getElem?_map] at h
  cases e:n[i]? with
  | none => rw [e] at h; cases h
  | some s => rw [e] at h; exact ⟨s,rfl,(Option.some.inj h).symm⟩
noncomputable def OptQ (H:Hp) (v:V) (o:Option Rat):Prop:=match o with | none => v = .non | some q => FrQ H v q
theorem OptQ.tk {H H':Hp} {v:V} {o:Option Rat} (h:OptQ H v o) (t:TK H H'):OptQ H' v o:=by
  cases o with
  | none => exact h
  | some q => exact FrQ.tk h t
structure TOk (q:Rat):Prop where
  nn:0 <= q
  d:q.den <= 10 ^ 18
  n:q.num.natAbs <= 2 * 10 ^ 18
theorem low_rat {t b:Int} (hb:b ≠ 0):(Rat.divInt t b).num = lowT t b /\ ((Rat.divInt t b).den:Int) = lowB t b:=rat_of hb (lowB_pos hb) (low_cop hb) (low_worth hb)
theorem FrQ.low {H:Hp} {t b:Int} {p:Addr} (hb:b ≠ 0) (h:H p = some (.tup [.int (lowT t b),.int (lowB t b)])):FrQ H (.ref p) (Rat.divInt t b):=⟨p,rfl,by rw [h,(low_rat hb).1,(low_rat hb).2]⟩
theorem TOk.low {t b:Int} (ht:0 <= t) (ht2:t <= 2 * 10 ^ 18) (hb:0 < b) (hb2:b <= 10 ^ 18):TOk (Rat.divInt t b):=by
  have hb0:b ≠ 0:=by omega
  have h1:=low_rat (t:=t) hb0
  have h2:=lowT_le (t:=t) hb0
  have h3:=lowB_le (t:=t) hb0
  refine ⟨?_,?_,?_⟩
  . rw [← Rat.num_nonneg,h1.1]
    have e:=low_worth (t:=t) hb0
    have hp:=lowB_pos (t:=t) hb0
    have:0 <= lowT t b * b:=by rw [e]; exact Int.mul_nonneg ht (by omega)
    exact Int.nonneg_of_mul_nonneg_left this hb
  . have:=h1.2
    omega
  . rw [h1.1]
    omega
theorem low_pos {t b:Int} (ht:0 < t) (hb:0 < b):0 < Rat.divInt t b:=by
  rw [Rat.lt_iff,(low_rat (t:=t) (b:=b) (by omega)).1]
  show (0:Int) * _ < lowT t b * 1
  rw [Int.zero_mul,Int.mul_one]
  have e:=low_worth (t:=t) (b:=b) (by omega)
  have hp:=lowB_pos (t:=t) (b:=b) (by omega)
  have:0 < lowT t b * b:=by rw [e]; exact Int.mul_pos ht hp
  exact Int.pos_of_mul_pos_left this hb
noncomputable abbrev abc:Str:=Str.ofString "abcdefghijklmnopqrstuvwxyz"
theorem abc_len:abc.length = 26:=by decide +kernel
theorem abc_at:∀ j:Nat,j < 26 -> atI abc.cps.toList (j:Int) = some (97 + j):=by decide +kernel
section
variable {σ:St} {H:Hp} {Q:VK} {K:PySem.W.Frag}
theorem r_ixS {z:Str} {i:Int} {c:Nat} (hz:z.length <= 100000) (e:atI z.cps.toList i = some c) (k:Q (.str ⟨#[c]⟩) H):rIxLT K (.str z) (.int i) H Q:=.inr (.inr ⟨z,i,c,rfl,rfl,by rw [sizeLine_eq]; omega,e,k⟩)
theorem r_addS {a b:Str} (h:a.length + b.length <= 100000) (k:Q (.str (a ++ b)) H):rAddA K (.str a) (.str b) H Q:=.inr (.inr (.inr ⟨a,b,rfl,rfl,by rw [sizeLine_eq]; omega,k⟩))
end
theorem len_app (a b:Str):(a ++ b).length = a.length + b.length:=by
  show (a.cps ++ b.cps).size = _
  simp [Str.length]
structure Room39 (D M:Nat):Prop where
  ne:D ≠ 0
  d:D < 2 ^ 3900
  m:M * 20000 * D < 2 ^ 3900
theorem Room39.sz {D M N:Nat} {q:Rat} (R:Room39 D M) (h:Bd D N q) (hn:N <= M * 20000):Sz 3900 q:=h.sz R.ne R.d (Nat.lt_of_le_of_lt (Nat.mul_le_mul_right _ hn) R.m)
structure TolI (H3 G:Hp) (dT:Addr) (net:List (RunD Key)) (ps:List (Key×Rat)) (D B:Nat) (m:AL Key Rat):Prop where
  kp:Kp dT H3 G
  dq:DQ FrQ G dT m
  nd:(m.map (·.1)).Nodup
  un:∀ x ∈ m,x.1 ∈ univ net ps
  bd:∀ x ∈ m,Bd D B x.2
theorem TolI.sm {H3 G G':Hp} {dT:Addr} {net:List (RunD Key)} {ps:List (Key×Rat)} {D B:Nat} {m:AL Key Rat} (t:TolI H3 G dT net ps D B m) (s:Same G G'):TolI H3 G' dT net ps D B m :=
  ⟨fun b o h1 h2 => s _ _ (t.kp b o h1 h2),t.dq.sm FrQ.tk s,t.nd,t.un,t.bd⟩
theorem TolI.mono {H3 G:Hp} {dT:Addr} {net:List (RunD Key)} {ps:List (Key×Rat)} {D B B':Nat} {m:AL Key Rat} (t:TolI H3 G dT net ps D B m) (h:B <= B'):TolI H3 G dT net ps D B' m :=
  ⟨t.kp,t.dq,t.nd,t.un,fun x hx => (t.bd x hx).mono h⟩
theorem TolI.len {H3 G:Hp} {dT:Addr} {net:List (RunD Key)} {ps:List (Key×Rat)} {D B:Nat} {m:AL Key Rat} (t:TolI H3 G dT net ps D B m):m.length <= ps.length + 2 * net.length:=by
  have hu:(univ net ps).length = ps.length + 2 * net.length:=by simp [univ]; omega
  have:=nd_len (m:=univ net ps) t.nd fun x hx => by
    obtain ⟨y,hy,rfl⟩:=List.mem_map.mp hx
    exact t.un y hy
  rwa [List.length_map,hu] at this
theorem aget_putF {m:AL Key Rat} {k:Key} {v:Rat}:aget (aput m k v) = fun p => if p = k then some v else aget m p:=by
  funext p
  exact aget_put m k p v
theorem Kp.sm {p:Addr} {H H1 H2:Hp} (k:Kp p H1 H2) (s:Same H H1) (hp:H p = none):Same H H2:=fun b o h => k _ _ (ne_of_none h hp) (s _ _ h)
theorem St3.sm {H H':Hp} {p:Addr} {n:Int} (h:St3 H p n) (s:Same H H'):St3 H' p n:=let ⟨a,b,c,x,y⟩:=h; ⟨a,b,c,s _ _ x,y⟩
noncomputable def dFr (q:Rat):Dt:=.tup [.int q.num,.int q.den]
noncomputable def dRun (r:TRun):Dt:=.tup [.str r.1,.str r.2.1,dFr r.2.2]
theorem den_fr {H:Hp} {v:V} {q:Rat} (h:FrQ H v q):Den H (dFr q) v:=let ⟨p,e,h⟩:=h; e ▸ den2 h
theorem den_runs {H:Hp}:∀ {n:List TRun} {vs:List V},Paired (RunQ H) vs (kn n) -> DenL H (n.map dRun) vs
  | [],_,.nil => rfl
  | r :: n,_,.cons h t => by
    obtain ⟨p,u,rfl,h1,h2⟩:=h
    exact ⟨_,_,rfl,⟨p,_,rfl,h1,_,_,rfl,rfl,_,_,rfl,rfl,_,_,rfl,den_fr h2,rfl⟩,den_runs t⟩
theorem dep_runs:∀ n:List TRun,depL (n.map dRun) <= 10
  | [] => by decide
  | r :: n => by
    have h1:=dep_runs n
    have h2:dep (dRun r) <= 10:=Nat.le_of_ble_eq_true rfl
    show max _ _ <= _
    omega
noncomputable abbrev sA:Str:=Str.ofString "a"
noncomputable abbrev sB:Str:=Str.ofString "b"
noncomputable def n0:List TRun:=[(sA,sB,Rat.divInt 1 2)]
theorem ab:(Sum.inr sA:Key) ≠ Sum.inr sB:=by decide +kernel
theorem Rlx.more {tk:Nat -> Option Rat} {k:Nat} {x s t:Rat} {a b:Key} {m:AL Key Rat} (h1:aget m a = some s) (hn:NotOut tk k (s + x)) (h2:aget m b = some t) (c:¬ s + x < t):Rlx tk k x a b (aget m) (aget m):=by
  refine .inr (.inr ⟨s,h1,hn,.inr ⟨t,h2,?_⟩⟩)
  funext p
  by_cases e:p = b
  . subst e
    rw [if_pos rfl,h2]
    by_cases d:t < s + x
    . rw [if_pos d]
    . rw [if_neg d,Rat.le_antisymm (Rat.not_lt.mp d) (Rat.not_lt.mp c)]
  . rw [if_neg e]
theorem Rlx.new {tk:Nat -> Option Rat} {k:Nat} {x s:Rat} {a b:Key} {m:AL Key Rat} (h1:aget m a = some s) (hn:NotOut tk k (s + x)) (h2:aget m b = none):Rlx tk k x a b (aget m) (aget (aput m b (s + x))):=.inr (.inr ⟨s,h1,hn,.inl ⟨h2,aget_putF⟩⟩)
end L2
namespace L2
open PySem PySem.Spec PySem.W PySem.Calls PyProof.Rows PySem.Builtin PySem.Builtin.ObjectAttr PySem.Builtin.Getset_descriptor
structure XCls (K:Frag) (C:Addr):Prop where
  ga:findIn K (.ref C) "__getattribute__" = some (some (.builtin "BaseException.__getattribute__"))
  gt:findIn K (.ref C) "__getattr__" = some none
  ca:findIn K (.ref C) "__class__" = some (some (.builtin "object.__class__"))
  ob:subIn K (.ref C) (.type "object") = some true
  be:subIn K (.ref C) (.type "BaseException") = some true
  ic:(clsIn K C).isSome = true
theorem XCls.obj {K:Frag} {C:Addr} (Z:XCls K C):∃ c d cd sl,K.lookup C = some ⟨c,d,.cls cd,sl⟩:=by
  have q:=Z.ic
  unfold clsIn at q
  split at q
  . exact ⟨_,_,_,_,by assumption⟩
  . cases q
noncomputable def KitR (a C:Addr) (h:Heap):Prop:=∃ o,h.get? a = some o /\ o.cls = .ref C
theorem KitR.ty {a C:Addr} {h:Heap} (M:Model) (p:KitR a C h):Looks M h (typeOf (.ref a)) (.ref C):=by
  obtain ⟨o,h1,h2⟩:=p
  have q:=(Looks.ld (M:=M) (part:=some headPart) h1).andThen (f:=fun o => pure o.cls) .now
  rw [h2] at q; exact q
section
variable {prog:Program} {w:World} {A:Around} {E:Value -> Shared -> Prop} {s:Shared} {K:Frag} {x C:Addr}
theorem x_class_get {R:Result -> Shared -> Prop} {tp:Value} (Z:XCls K C) (X:K.In s.heap) (p:KitR x C s.heap) (h:R (.ok (.ret (.ref C))) s) :
    codeAny (model prog w) A (.call (.builtin "getset_descriptor.__get__") ⟨[.builtin "object.__class__",.ref x,tp],[]⟩) R s:=by
  obtain ⟨h1,gs,dw,tn,so⟩:=s
  have L0:=p.ty (model prog w)
  have L1:=looks_subIn (M:=model prog w) X Z.ob
  refine codeAny_call_builtin (h:=KF.slot_gs.check _ _ _ _ _ _ _ _ KF.type_class (KF.args_gs _ _ _) ?_) KF.slot_gs.plain KF.entry_gs
  unfold Builtin.«getset_descriptor.__get__»; unfold descrGet; rw [dga_obj]; refine wpAny_bind (wpAny_pure ?_)
  unfold descrGetter descrCheckInstance; unfold descrNameAndClass isInstance; simp only [KF.owner_class]
  repeat lk
  refine ⟨Code.quiet_builtin _ (by decide +kernel),?_⟩; refine codeAny_builtin KF.entry_class ?_; unfold Builtin.«object.__class__»; unfold shownTypeOf
  repeat lk
  exact h
theorem x_check {nameV:Value} {Q:Unit -> Shared -> Prop} (Z:XCls K C) (X:K.In s.heap) (p:KitR x C s.heap) (h:Q () s):wpAny (model prog w) A (checkBuiltinCall "BaseException.__getattribute__" ⟨[.ref x,nameV],[]⟩) Q E s:=by
  obtain ⟨h1,gs,dw,tn,so⟩:=s
  have q1:builtinKind "BaseException.__getattribute__" = some .slot:=by decide +kernel
  have q2:splitId "BaseException.__getattribute__" = some ("BaseException","__getattribute__"):=by decide +kernel
  have L0:=p.ty (model prog w)
  have L1:=looks_subIn (M:=model prog w) X Z.be
  have ha:=F.args_bexc_ga (.ref x) nameV
  simp only [checkBuiltinCall,q1,q2]
  refine wpAny_bind ?_
  . unfold isInstance
    repeat (first | lk | wp_step)
    exact h
theorem x_entry {tk:Tok} {Q:Fin -> Shared -> Prop} (Z:XCls K C) (X:K.In s.heap) (p:KitR x C s.heap) (h:Q (.done (.ret (.ref C))) s) :
    wpAny (model prog w) A (Builtin.«object.__getattribute__» ⟨[.ref x,.str "__class__" tk],[]⟩) Q E s:=by
  obtain ⟨h1,gs,dw,tn,so⟩:=s
  have L0:=p.ty (model prog w)
  have L1:=looks_findIn (M:=model prog w) X Z.ca
  have q5:=F.typeOf_object_class; have q6:=F.slot_gs_get.lookup; have q7:=F.slot_gs_set.lookup
  obtain ⟨o,hx,hc⟩:=id p
  repeat (any_goals (first | assumption | (with_reducible refine wpAny_loadPart_at hx ?_; rw [hc]) | with_reducible refine L1.here ?_ | wp_step))
  refine x_class_get Z X p ?_
  repeat any_goals (first | assumption | wp_step)
theorem x_call {tk:Tok} {R:Result -> Shared -> Prop} (Z:XCls K C) (X:K.In s.heap) (p:KitR x C s.heap) (h:R (.ok (.ret (.ref C))) s) :
    codeAny (model prog w) A (.call (.builtin "BaseException.__getattribute__") ⟨[.ref x,.str "__class__" tk],[]⟩) R s :=
  codeAny_call_builtin F.attr_ValueError.ga.plain F.entry_bexc_ga (x_check Z X p (x_entry Z X p h))
theorem x_by {tk:Tok} {Q:Value -> Shared -> Prop} (Z:XCls K C) (X:K.In s.heap) (p:KitR x C s.heap) (h:Q (.ref C) s) :
    wpAny (model prog w) A (getAttrBy (.ref x) (.str "__class__" tk) false) Q E s:=by
  obtain ⟨h1,gs,dw,tn,so⟩:=s
  have L0:=p.ty (model prog w)
  have L1:=looks_findIn (M:=model prog w) X Z.ga
  have L2:=looks_findIn (M:=model prog w) X Z.gt
  have f3:=F.attr_ValueError.ga.bind (.ref x)
  have n2:(Value.builtin "BaseException.__getattribute__" == Value.builtin "object.__getattribute__") = false:=by decide +kernel
  have n1:(onTheHeap (Value.ref C) && Value.builtin "BaseException.__getattribute__" == Value.builtin "object.__getattribute__") = false:=by rw [n2]; rfl
  have n0:(false && onTheHeap (Value.builtin "BaseException.__getattribute__")) = false:=rfl
  obtain ⟨o,hx,hc⟩:=id p
  repeat (any_goals (first | assumption | (with_reducible refine wpAny_loadPart_at hx ?_; rw [hc]) | with_reducible refine L1.here ?_ | with_reducible refine L2.here ?_ | wp_step))
  refine x_call Z X p ?_
  repeat any_goals (first | assumption | wp_step)
theorem x_cls {Q:Option Value -> Shared -> Prop} (Z:XCls K C) (X:K.In s.heap) (p:KitR x C s.heap) (h:Q (some (.ref C)) { s with toks:=s.toks + 1 }):wpAny (model prog w) A (getAttr? (.ref x) "__class__") Q E s:=by
  obtain ⟨h1,gs,dw,tn,so⟩:=s
  unfold getAttr? getAttrBy?
  exact wpAny_bind (wpAny_mkText (wpAny_bind (wpAny_attempt (x_by (s:=⟨h1,gs,dw,tn + 1,so⟩) Z X p (wpAny_pure h)))))
end
theorem kitx_exc {K:Frag} {a C:Addr} (Z:XCls K C):KitX K (.ref a) (.ref C) (KitR a C) where
  ty:=fun M h _ p => p.ty M
  it:=fun M h X _ => by
    obtain ⟨c,d,cd,sl,ho⟩:=Z.obj
    intro A' Q' E' s' k q
    unfold isType loadHead
    exact wpAny_bind (wpAny_loadPart (k C _ (X C _ ho)) (wpAny_pure q))
  ne:=fun h b _ _ _ _ X hb => by
    obtain ⟨c,d,cd,sl,ho⟩:=Z.obj
    refine Bool.eq_false_iff.mpr ?_
    intro q
    obtain rfl:C = b:=Value.ref.inj (beq_iff_eq.mp q)
    rw [X C _ ho] at hb; cases hb
  ca:=fun X p k => x_cls Z X p k
end L2
namespace L2
open PySem PySem.Spec PyProof.Rows
structure Kpt (fs xs:List Addr) (h h':Heap):Prop where
  keep:∀ b o,h.get? b = some o -> b ∉ fs -> b ∉ xs -> h'.get? b = some o
  slot:∀ b o,h.get? b = some o -> b ∈ fs -> b ∉ xs -> ∃ sl,h'.get? b = some { o with slots:=sl }
section
variable {fs fs' xs xs':List Addr} {h h0 h1 h2 h':Heap} {H H':Hp} {P:Program} {w:World}
theorem Kpt.there (k:Kpt fs xs h h') {b:Addr} {o:Obj} (e:h.get? b = some o) (n:b ∉ xs):∃ sl,h'.get? b = some { o with slots:=sl }:=by
  by_cases hb:b ∈ fs
  . exact k.slot b o e hb n
  . exact ⟨o.slots,k.keep b o e hb n⟩
theorem Kpt.mv {L:Addr} (k:Kpt (L :: fs) xs h h'):Kpt fs (L :: xs) h h' where
  keep:=fun b o e n m => k.keep b o e (fun z => (List.mem_cons.mp z).elim (fun q => m (q ▸ List.mem_cons_self)) n) fun z => m (List.mem_cons_of_mem _ z)
  slot:=fun b o e n m => k.slot b o e (List.mem_cons_of_mem _ n) fun z => m (List.mem_cons_of_mem _ z)
theorem ObjOk.at {a:Addr} {o:HO} (x:ObjOk P w H h a o):∃ ob,h.get? a = some ob:=by
  cases o with
  | lst xs => obtain ⟨_,_,_,_,e⟩:=x; exact ⟨_,e⟩
  | tup xs => obtain ⟨_,_,_,⟨o,e,_⟩⟩:=x; exact ⟨_,e⟩
  | dK kvs => obtain ⟨_,_,_,_,o,_,_,e,_⟩:=x; exact ⟨_,e⟩
  | dT kvs => obtain ⟨_,_,_,_,o,_,_,e,_⟩:=x; exact ⟨_,e⟩
  | set S n => obtain ⟨o,_,_,_,e,_⟩:=x; exact ⟨_,e⟩
  | ins C dx fs => obtain ⟨_,_,_,e,_⟩:=x; exact ⟨_,e⟩
  | own y => obtain ⟨_,e⟩:=x; exact ⟨_,e⟩
  | xd fs => obtain ⟨_,⟨_,_,_,e,_⟩,_⟩:=x; exact ⟨_,e⟩
  | rng lo hi => obtain ⟨_,_,_,e⟩:=x; exact ⟨_,e⟩
  | frz ob u => obtain ⟨e,_⟩:=x; exact ⟨_,e⟩
  | tbl ps => exact ⟨_,(show h.get? a = some _ from x)⟩
  | met f y => exact ⟨_,(show h.get? a = some _ from x)⟩
  | ext φ => obtain ⟨_,⟨_,e⟩,_⟩:=x; exact ⟨_,e⟩
theorem HOk.none_of (x:HOk P w H h) {a:Addr} (e:h.get? a = none):H a = none:=by
  cases q:H a with
  | none => rfl
  | some o =>
    obtain ⟨ob,z⟩:=(x a o q).at
    rw [e] at z; cases z
theorem HOk.kpt (ok:HOk P w H h) (k:Kpt fs xs h h') (hf:∀ b ∈ fs,H b = none) (hx:∀ b ∈ xs,H b = none):HOk P w H h':=fun a o e => by
  have key:∀ b u,H b = some u -> b ∉ fs /\ b ∉ xs:=fun b u q => ⟨fun z => (by rw [hf b z] at q; cases q),fun z => (by rw [hx b z] at q; cases q)⟩
  refine (ok a o e).stay (fun b u hb q => ?_) (fun _ q => q) fun _ _ q => q
  rcases hb with rfl | hb
  . exact k.keep b u q (key b o e).1 (key b o e).2
  . exact k.keep b u q (key b _ hb).1 (key b _ hb).2
theorem HOk.track (ok:HOk P w H h) {a:Addr} {o:HO} (hn:H a = none) (new:ObjOk P w (upd H a o) h a o):HOk P w (upd H a o) h:=fun b u q => by
  by_cases hb:b = a
  . subst hb; rw [upd_same] at q; cases q; exact new
  . rw [upd_ne hb] at q
    exact (ok b u q).stay (fun _ _ _ z => z) (fun c r => by rw [upd_ne (ne_of_none r hn)]; exact r) fun c xs r => by rw [upd_ne (ne_of_none r hn)]; exact r
theorem Un.kpt (u:Un fs [] H H' h0 h) (k:Kpt fs xs h h') (hx:∀ b ∈ xs,h0.get? b = none):Un fs [] H H' h0 h':=by
  have nx:∀ b o,h0.get? b = some o -> b ∉ xs:=fun b o e z => by rw [hx b z] at e; cases e
  refine ⟨fun b o e n hb he => k.keep b o (u.keep b o e n hb he) hb (nx b o e),fun b o e n hb he => ?_,u.free,fun b o e he => ?_,u.tups,u.frzs,u.tbls⟩
  . obtain ⟨sl,q⟩:=u.slot b o e n hb he
    obtain ⟨sl',q'⟩:=k.slot b _ q hb (nx b o e)
    exact ⟨sl',q'⟩
  . obtain ⟨o',q⟩:=u.there b o e he
    obtain ⟨sl,q'⟩:=k.there q (nx b o e)
    exact ⟨_,q'⟩
theorem Un.track {ex:List Addr} {a:Addr} {o:HO} (u:Un fs ex H H' h h') (hn:H' a = none) (hh:h.get? a = none):Un fs ex H (upd H' a o) h h' where
  keep:=u.keep
  slot:=u.slot
  free:=fun b ob e n hx => by rw [upd_ne (fun z => by rw [z,hh] at e; cases e)]; exact u.free b ob e n hx
  there:=u.there
  tups:=fun b xs q => by rw [upd_ne (ne_of_none (u.tups b xs q) hn)]; exact u.tups b xs q
  frzs:=fun b ob xs q => by rw [upd_ne (ne_of_none (u.frzs b ob xs q) hn)]; exact u.frzs b ob xs q
  tbls:=fun b ps q => by
    obtain ⟨m,e⟩:=u.tbls b ps q
    exact ⟨m,by rw [upd_ne (ne_of_none e hn)]; exact e⟩
theorem Un.was (u:Un fs [] H H' h h') {a:Addr} (e:h'.get? a = none):h.get? a = none:=by
  cases q:h.get? a with
  | none => rfl
  | some o =>
    obtain ⟨o',z⟩:=u.there a o q (by simp)
    rw [e] at z; cases z
end
noncomputable def FlyA (x T C:Addr) (fl:Value) (h:Heap):Prop:=∃ oe vs oT ts,h.get? x = some oe /\ oe.cls = .ref C /\ oe.data = .fields vs /\ vs[1]? = some (.ref T) /\ vs[2]? = some .none /\ T ≠ x /\ h.get? T = some oT /\ oT.data = .fields ts /\ ts[3]? = some fl
noncomputable abbrev Fly (x T C:Addr) (h:Heap):Prop:=FlyA x T C .none h
noncomputable def ExR (x C:Addr) (h:Heap):Prop:=∃ o vs,h.get? x = some o /\ o.cls = .ref C /\ o.data = .fields vs /\ vs[2]? = some .none
theorem ExR.kitR {x C:Addr} {h:Heap} (f:ExR x C h):KitR x C h:=by
  obtain ⟨oe,_,e,c,_⟩:=f
  exact ⟨oe,e,c⟩
theorem FlyA.exR {x T C:Addr} {fl:Value} {h:Heap} (f:FlyA x T C fl h):ExR x C h:=by
  obtain ⟨oe,vs,_,_,e,c,d,_,z,_⟩:=f
  exact ⟨oe,vs,e,c,d,z⟩
theorem Kpt.refl {fs xs:List Addr} {h:Heap}:Kpt fs xs h h:=⟨fun _ _ e _ _ => e,fun _ o e _ _ => ⟨o.slots,e⟩⟩
theorem Kpt.upd {fs xs:List Addr} {h h1:Heap} {a:Addr} (k:Kpt fs xs h h1) (f:Obj -> Obj) (ha:a ∈ xs ∨ h.get? a = none):Kpt fs xs h (h1.update a f):=by
  have na:∀ b o,h.get? b = some o -> b ∉ xs -> a ≠ b:=fun b o e n z => by
    rcases ha with q | q
    . exact n (z ▸ q)
    . rw [z,e] at q; cases q
  exact ⟨fun b o e n m => (Heap.get?_update_other _ _ (na b o e m)).trans (k.keep b o e n m),fun b o e n m => (k.slot b o e n m).imp fun sl q => (Heap.get?_update_other _ _ (na b o e m)).trans q⟩
theorem Kpt.push {fs xs:List Addr} {h h1:Heap} (k:Kpt fs xs h h1) (o:Obj):Kpt fs xs h (h1.push o) :=
  ⟨fun b u e n m => Heap.get?_push_of_some _ (k.keep b u e n m),fun b u e n m => (k.slot b u e n m).imp fun sl q => Heap.get?_push_of_some _ q⟩
section
variable {M:Model} {A:Around} {E:Value -> Shared -> Prop} {s:Shared} {base:Heap} {env:Env} {outer l:List Env} {L x T C:Addr} {Q:Unit -> Shared -> Prop}
noncomputable def newHead (env:Env) (L x:Addr) (head:Value) (b:Bool):Sem Unit:=frameOf env >>= fun a => entryPlaceOf L b >>= fun pl => EntryCells.newEntry head a .none (rawInt L) .none pl >>= fun v => setField (.ref x) 1 v
theorem fl_entry {oe:Obj} {vs:Array Value} {head:Value} {b:Bool} (hfr:A.frames = some (env :: outer)) (hf:env.frame = some L) (hl:s.heap.FunFrames base (env :: outer)) (he:s.heap.get? x = some oe) (hc:oe.cls = .ref C) (hd:oe.data = .fields vs)
    (h1:1 < vs.size) (h2:vs[2]? = some .none) (k:∀ h' T',FlyA x T' C (rawInt L) h' -> s.heap.get? T' = none -> Kpt (frs (env :: outer)) [x] s.heap h' -> Q () { s with heap:=h' }):wpAny M A (newHead env L x head b) Q E s:=by
  have nfr:x ∉ frs (env :: outer):=fun hm => by
    obtain ⟨_,o,ho,hn⟩:=hl.mem hm
    rw [he] at ho; cases ho
    exact hn vs hd
  refine wpAny_bind (wpAny_frameOf_fun hfr hl hf fun g hg => wpAny_bind (wpAny_entryPlaceOf fun pl hpl => wpAny_bind ?_))
  unfold EntryCells.newEntry newFields
  refine wpAny_newObj_type ?_ (hpl.sizeOk5 _ _ _ _ _)
  generalize hts:([head,Value.ref L,Value.none,rawInt L,Value.none] ++ (if pl.isEmpty then List.replicate 6 Value.none else pl)).toArray = ts
  have e1:g.get? x = some oe:=(hg.2.1 x nfr).trans he
  have nT:g.objs.size ≠ x:=Nat.ne_of_gt (Heap.lt_size e1)
  have e2:=Heap.get?_push_of_some (h:=g) { cls:=.type "traceback",dict:=none,data:=.fields ts } e1
  refine wpAny_setField e2 hd h1 (k _ g.objs.size ?_ ?_ ?_)
  . have d3:=Obj.data_mapFields hd (·.setIfInBounds 1 (Value.ref g.objs.size))
    refine ⟨_,_,_,ts,Heap.get?_update_self _ e2 (Obj.isFreed_of_fields d3),(Obj.cls_mapFields _ _).trans hc,d3,by simp [h1],?_,nT,(Heap.get?_update_other _ _ (Ne.symm nT)).trans (Heap.get?_push_size g rfl),rfl,by rw [← hts]; simp⟩
    rw [Array.getElem?_setIfInBounds_ne (by decide)]; exact h2
  . exact Heap.get?_none_of_le (Nat.le_of_eq hg.1.symm)
  . refine Kpt.upd (Kpt.push ⟨fun b o e n m => (hg.2.1 b n).trans e,fun b o e n m => hg.2.2 b o e⟩ _) _ (.inl (by simp))
theorem fl_land {fl:Value} {h0:Heap} {fs:List Addr} (f:FlyA x T C fl s.heap) (k0:Kpt fs [x,T] h0 s.heap ∨ (Kpt fs [x] h0 s.heap /\ h0.get? T = none))
    (k:∀ h',Fly x T C h' -> (Kpt fs [x,T] h0 h') -> (h0.get? T = none -> Kpt fs [x] h0 s.heap -> Kpt fs [x] h0 h') -> Q () { s with heap:=h' }):wpAny M A (setFlight (.ref x) none) Q E s:=by
  obtain ⟨oe,vs,oT,ts,e1,e2,e3,e4,e5,e6,e7,e8,e9⟩:=f
  have sz:3 < ts.size:=(Array.getElem?_eq_some_iff.mp e9).1
  unfold setFlight
  refine wpAny_bind (wpAny_field e1 e3 e4 ?_)
  rw [if_pos (by simp)]
  have d3:=Obj.data_mapFields e8 (·.setIfInBounds 3 ((none:Option Addr).elim Value.none fun f => rawInt f))
  refine wpAny_setField e7 e8 sz (k _ ⟨oe,vs,_,_,(Heap.get?_update_other _ _ e6).trans e1,e2,e3,e4,e5,e6,Heap.get?_update_self _ e7 (Obj.isFreed_of_fields d3),d3,by simp [sz]⟩ ?_ fun q z => z.upd _ (.inr q))
  rcases k0 with z | ⟨z,q⟩
  . exact z.upd _ (.inl (by simp))
  . exact Kpt.upd ⟨fun b o e n m => z.keep b o e n fun y => m (by simp at y; simp [y]),fun b o e n m => z.slot b o e n fun y => m (by simp at y; simp [y])⟩ _ (.inl (by simp))
theorem fl_note0 {oe:Obj} {vs:Array Value} (hfr:A.frames = some (env :: outer)) (hf:env.frame = some L) (hl:s.heap.FunFrames base (env :: outer)) (he:s.heap.get? x = some oe) (hc:oe.cls = .ref C) (hd:oe.data = .fields vs)
    (h1:vs[1]? = some .none) (h2:vs[2]? = some .none) (k:∀ h' T',FlyA x T' C (rawInt L) h' -> s.heap.get? T' = none -> Kpt (frs (env :: outer)) [x] s.heap h' -> Q () { s with heap:=h' }):wpAny M A (noteFrame (.ref x) env) Q E s:=by
  unfold noteFrame
  simp only [hf]
  refine wpAny_bind (wpAny_field he hd h1 ?_)
  rw [if_neg (by decide)]
  exact fl_entry hfr hf hl he hc hd (Array.getElem?_eq_some_iff.mp h1).1 h2 k
theorem fl_note1 (hfr:A.frames = some (env :: outer)) (hf:env.frame = some L) (hl:s.heap.FunFrames base (env :: outer)) (f:Fly x T C s.heap)
    (k:∀ h' T',FlyA x T' C (rawInt L) h' -> s.heap.get? T' = none -> Kpt (frs (env :: outer)) [x,T] s.heap h' -> Q () { s with heap:=h' }):wpAny M A (noteFrame (.ref x) env) Q E s:=by
  obtain ⟨oe,vs,oT,ts,e1,e2,e3,e4,e5,e6,e7,e8,e9⟩:=f
  unfold noteFrame
  simp only [hf]
  refine wpAny_bind (wpAny_field e1 e3 e4 ?_)
  rw [if_pos (by simp)]
  refine wpAny_bind (wpAny_field e7 e8 e9 ?_)
  rw [if_neg (by simp [rawInt])]
  refine wpAny_bind (wpAny_setField e7 e8 (Array.getElem?_eq_some_iff.mp e9).1 ?_)
  have oth:∀ b,b ≠ T -> (s.heap.update T (Obj.mapFields (·.setIfInBounds 3 Value.none))).get? b = s.heap.get? b:=fun b hb => Heap.get?_update_other _ _ (Ne.symm hb)
  have hl':(s.heap.update T (Obj.mapFields (·.setIfInBounds 3 Value.none))).FunFrames base (env :: outer):=hl.of_keeps fun b o hb hn => ⟨o,(oth b fun z => by rw [z,e7] at hb; cases hb; exact hn ts e8).trans hb,rfl⟩
  refine fl_entry (s:={ s with heap:=s.heap.update T (Obj.mapFields (·.setIfInBounds 3 Value.none)) }) hfr hf hl' ((oth x (Ne.symm e6)).trans e1) e2 e3 (Array.getElem?_eq_some_iff.mp e4).1 e5 fun h' T' f' n' k' => k h' T' f' ?_ ?_
  . cases z:s.heap.get? T' with
    | none => rfl
    | some o =>
      exfalso
      by_cases q:T' = T
      . have d3:=Obj.data_mapFields e8 (·.setIfInBounds 3 Value.none)
        have:=Heap.get?_update_self (Obj.mapFields (·.setIfInBounds 3 Value.none)) e7 (Obj.isFreed_of_fields d3)
        rw [← q,show Heap.get? (s.heap.update T' _) T' = none from q ▸ n'] at this; cases this
      . have:=(oth T' q).trans z
        rw [show Heap.get? (s.heap.update T _) T' = none from n'] at this; cases this
  . refine ⟨fun b o e n m => k'.keep b o ((oth b fun z => m (by simp [z])).trans e) n fun y => m (by simp at y; simp [y]),fun b o e n m => k'.slot b o ((oth b fun z => m (by simp [z])).trans e) n fun y => m (by simp at y; simp [y])⟩
theorem fly_leave (hfr:A.frames = some (env :: outer)) (hf:env.frame = some L) (hl:s.heap.FunFrames base (env :: outer)) (f:Fly x T C s.heap)
    (k:∀ h' T',Fly x T' C h' -> (T' = T ∨ s.heap.get? T' = none) -> Kpt (frs (env :: outer)) [x,T] s.heap h' -> Q () { s with heap:=h' }):wpAny M A (leaving env (.ref x)) Q E s:=by
  unfold leaving
  refine wpAny_bind (fl_note1 hfr hf hl f fun h1 T1 f1 n1 k1 => ?_)
  refine fl_land (s:={ s with heap:=h1 }) (h0:=h1) (fs:=[]) f1 (.inl .refl) fun h2 f2 k2 _ => k h2 T1 f2 (.inr n1) ?_
  have nT:∀ b o,s.heap.get? b = some o -> b ∉ [x,T] -> b ∉ [x,T1]:=fun b o e m z => by
    rcases List.mem_cons.mp z with z | z
    . exact m (by simp [z])
    . rw [List.mem_singleton.mp z,n1] at e; cases e
  exact ⟨fun b o e n m => k2.keep b o (k1.keep b o e n m) (by simp) (nT b o e m),fun b o e n m => (k1.slot b o e n m).imp fun sl q => k2.keep b _ q (by simp) (nT b o e m)⟩
theorem fly_note (hfr:A.frames = some (env :: outer)) (hf:env.frame = some L) (hl:s.heap.FunFrames base (env :: outer)) (f:Fly x T C s.heap)
    (k:∀ h' T',Fly x T' C h' -> (T' = T ∨ s.heap.get? T' = none) -> Kpt (frs (env :: outer)) [x,T] s.heap h' -> Q () { s with heap:=h' }) :
    wpAny M A (noteFrame (.ref x) env) (fun _ s₂ => wpAny M A (setFlight (.ref x) none) Q E s₂) E s:=by
  refine fl_note1 hfr hf hl f fun h1 T1 f1 n1 k1 => ?_
  refine fl_land (s:={ s with heap:=h1 }) (h0:=h1) (fs:=[]) f1 (.inl .refl) fun h2 f2 k2 _ => k h2 T1 f2 (.inr n1) ?_
  have nT:∀ b o,s.heap.get? b = some o -> b ∉ [x,T] -> b ∉ [x,T1]:=fun b o e m z => by
    rcases List.mem_cons.mp z with z | z
    . exact m (by simp [z])
    . rw [List.mem_singleton.mp z,n1] at e; cases e
  exact ⟨fun b o e n m => k2.keep b o (k1.keep b o e n m) (by simp) (nT b o e m),fun b o e n m => (k1.slot b o e n m).imp fun sl q => k2.keep b _ q (by simp) (nT b o e m)⟩
theorem fly_again (f:Fly x T C s.heap) (k:∀ h',Fly x T C h' -> Kpt (frs l) [x,T] s.heap h' -> Q () { s with heap:=h' }):wpAny M A (setFlight (.ref x) none) Q E s :=
  fl_land f (.inl (Kpt.refl (fs:=frs l))) fun h' f' k' _ => k h' f' k'
theorem fly_first {oe:Obj} {vs:Array Value} (hfr:A.frames = some (env :: outer)) (hf:env.frame = some L) (hl:s.heap.FunFrames base (env :: outer)) (he:s.heap.get? x = some oe) (hc:oe.cls = .ref C) (hd:oe.data = .fields vs)
    (h1:vs[1]? = some .none) (h2:vs[2]? = some .none)
    (k:∀ h' T',Fly x T' C h' -> s.heap.get? T' = none -> Kpt (frs (env :: outer)) [x] s.heap h' -> Q () { s with heap:=h' }):wpAny M A (leaving env (.ref x)) Q E s:=by
  unfold leaving
  refine wpAny_bind (fl_note0 hfr hf hl he hc hd h1 h2 fun g T1 f1 n1 k1 => ?_)
  exact fl_land (s:={ s with heap:=g }) f1 (.inr ⟨k1,n1⟩) fun h2 f2 _ k2 => k h2 T1 f2 n1 (k2 n1 k1)
end
end L2
namespace L2
open PySem PySem.Spec PyProof.Rows
noncomputable def excO (x C:Addr):HO:=.ext (ExR x C)
theorem excO_ok {P:Program} {w:World} {H:Hp} {h:Heap} {x C:Addr} (k:ExR x C h):ObjOk P w H h x (excO x C) :=
  ⟨k,(let ⟨o,_,e,_⟩:=k; ⟨o,e⟩),fun _ _ ⟨o,vs,e,c⟩ kp => ⟨o,vs,kp o e,c⟩⟩
noncomputable def CXe (P:Program) (w:World):CXT:=fun outer H s E e s' => ∃ x T C H',e = Value.ref x /\ s'.os = s.os /\ AllBare s'.gens /\ Un (frs outer) [] H H' s.heap s'.heap /\ HOk P w H' s'.heap /\
  s.heap.get? x = none /\ s.heap.get? T = none /\ H' x = none /\ H' T = none /\ Fly x T C s'.heap /\ E (.ref C) none H'
section
variable {P:Program} {w:World} {K:PySem.W.Frag} {mg:Str -> Option Value} {base:Heap} {N:List Str} {qual:Str} {scope:Scope} {f:Addr} {cd:Value} {A:Around} {outer:List Env} {s:Shared} {H:Hp} {E:XK}
theorem xe_new {pins:List (Addr×Obj)} {σ:St} {H1:Hp} {s1:Shared} {h':Heap} {x C:Addr} {args:List Value} (I:Inv (cxOf (CXe P w) P w K mg base N qual scope f cd A outer s H E) pins σ H1 s1)
    (m:Heap.MadeExcOf s1.heap h' x (.ref C) args) (q:E (.ref C) none H1):(cxOf (CXe P w) P w K mg base N qual scope f cd A outer s H E).xe (.ref x) { s1 with heap:=h' }:=by
  obtain ⟨t,he,htn,ht⟩:=m.there
  have fr:=I.stack
  refine fly_first (s:={ s1 with heap:=h' }) I.ok.frames rfl (fr.of_keeps fun b o z _ => ⟨o,m.keeps b o z,rfl⟩) he rfl rfl rfl rfl fun h2 T fl n k => ?_
  have k':Kpt (s.heap.objs.size :: frs outer) [x] h' h2:=k
  have u:Un (frs outer) [] H H1 s.heap s1.heap:=I.base
  have hn:∀ b,s1.heap.get? b = none -> s.heap.get? b = none:=fun b z => u.was z
  have hT:s1.heap.get? T = none:=by
    cases z:s1.heap.get? T with
    | none => rfl
    | some o =>
      have:=m.keeps T o z
      rw [show h'.get? T = none from n] at this; cases this
  refine ⟨x,T,C,H1,rfl,I.os,I.bare,((u.trans (Un.kept m.keeps)).kpt k'.mv fun b hb => ?_),(I.hok.kept m.keeps).kpt k' (fun b hb => I.stkFree b hb) (fun b hb => ?_),hn x m.new,hn T hT,I.hok.none_of m.new,I.hok.none_of hT,fl,q⟩
  . rcases List.mem_cons.mp hb with z | z
    . rw [z]; exact Heap.get?_none_of_le (Nat.le_refl _)
    . rw [List.mem_singleton.mp z]; exact hn x m.new
  . rw [List.mem_singleton.mp hb]; exact I.hok.none_of m.new
theorem passX:Passes (CXe P w) (cxOf (CXe P w) P w K mg base N qual scope f cd A outer s H E) E:=by
  intro pins σ H1 s1 e s2 I hx
  obtain ⟨x,T,C,H',rfl,ho,hg,un,hok,nx,nT,hx,hT,fl,q⟩:=hx
  have I2:=I.call' (ch:=[]) ho un hok hg (fun b z => absurd z (by simp))
  have u1:Un (frs outer) [] H H1 s.heap s1.heap:=I.base
  have u2:Un (frs outer) [] H H' s.heap s2.heap:=I2.base
  refine fly_leave I2.ok.frames rfl I2.stack fl fun h2 T2 fl2 n2 k => ?_
  have k':Kpt (s.heap.objs.size :: frs outer) [x,T] s2.heap h2:=k
  have hT2:s.heap.get? T2 = none /\ H' T2 = none:=by
    rcases n2 with z | z
    . rw [z]; exact ⟨u1.was nT,hT⟩
    . exact ⟨u2.was z,hok.none_of z⟩
  refine ⟨x,T2,C,H',rfl,I2.os,I2.bare,u2.kpt k'.mv fun b hb => ?_,hok.kpt k' (fun b hb => I2.stkFree b hb) (fun b hb => ?_),u1.was nx,hT2.1,hx,hT2.2,fl2,q⟩
  . rcases List.mem_cons.mp hb with z | z
    . rw [z]; exact Heap.get?_none_of_le (Nat.le_refl _)
    . rcases List.mem_cons.mp z with z | z
      . rw [z]; exact u1.was nx
      . rw [List.mem_singleton.mp z]; exact u1.was nT
  . rcases List.mem_cons.mp hb with z | z
    . rw [z]; exact hx
    . rw [List.mem_singleton.mp z]; exact hT
theorem passN {X:Cx}:Passes (CXe P w) X E0:=fun _ _ _ _ _ _ _ h => by
  obtain ⟨_,_,_,_,_,_,_,_,_,_,_,_,_,_,q⟩:=h
  exact q.elim
end
def bmVE:List Value:=[.type "ValueError",.type "Exception",.type "BaseException",.type "object"]
theorem exc_obj {K:PySem.W.Frag} {h:Heap} {C:Addr} {bmB:List Value} {newId:String} (X:K.In h) (q:PySem.W.excIn K C bmB newId = true) :
    ∃ nm qn N bs bm hdct sn sub ab col dd k0 k1 k2 k3 k5 mN,h.get? C = some (excClassObj nm qn C N bs bm hdct sn sub ab col dd k0 k1 k2 k3 k5 newId) /\ h.Ns N mN /\ mN "__init__" = none /\ OwnTail h bmB bm:=by
  unfold PySem.W.excIn at q
  split at q
  case h_2 => cases q
  rename_i dd cd sl ho
  split at q
  case h_2 => cases q
  rename_i C' bm k0 k1 k2 k3 n k5 hm hs
  simp only [Bool.and_eq_true,beq_iff_eq,Bool.not_eq_true'] at q
  obtain ⟨⟨⟨⟨⟨q1,q2⟩,q3⟩,q4⟩,q5⟩,q6⟩:=q
  subst q1 q2
  obtain ⟨c1,c2,c3,c4,c5,c6,c7,c8,c9,c10,c11⟩:=cd
  dsimp only at hm q3 q5 q6
  subst hm q3
  obtain ⟨l⟩:=sl
  have e:l = [k0,k1,k2,k3,some (.builtin n),k5]:=hs
  subst e
  exact ⟨_,_,_,_,_,_,_,_,_,_,_,_,_,_,_,_,_,X C' _ ho,.of_isNs (PySem.W.isNs_of_in X q5),PySem.W.nsMap_none_of_in X q5 q6,PySem.W.tail_of_in X q4⟩
noncomputable def tRaise (C:Addr) (E:XK) (t:TA):TS:=fun _ σ H => t σ H fun vs H1 => vs.length <= sizeLine /\ E (.ref C) none H1
theorem r_raise {C:Addr} {E:XK} {t:TA} {D:Ends} {σ:St} {H:Hp} (k:t σ H fun vs H1 => vs.length <= sizeLine /\ E (.ref C) none H1):tRaise C E t D σ H:=k
noncomputable def Raises (X:Cx) (E:XK):Prop:=∀ (pins:List (Addr×Obj)) (σ:St) (H1:Hp) (s1:Shared) (h':Heap) (x C:Addr) (args:List Value),Inv X pins σ H1 s1 -> Heap.MadeExcOf s1.heap h' x (.ref C) args -> E (.ref C) none H1 -> X.xe (.ref x) { s1 with heap:=h' }
theorem ps_raise {X:Cx} {E:XK} {C:Addr} {n:Str} {newId Bn inN:String} {bmN:List Value} {e:Expr} {es:List Expr} {t:TA} {np cpos pos:Pos} (hr:Raises X E) (hc:X.calm = true) (hg:Gl X n) (hm:X.mg n = some (.ref C))
    (hx:PySem.W.excIn X.K C bmVE newId = true) (Fn:ExcBaseFacts Bn newId inN bmN) (hBn:bmVE.contains (.type Bn) = true) (ha:PA X (e :: es) t)
    (hd:(n == ("__debug__":Str)) = false:=by decide) (he:starEach (e :: es) X.env = (false,eval e X.env) :: starEach es X.env:=by rfl) (hpl:(backTo cpos (starEach es X.env)).any (·.1) = false:=by rfl) :
    PS X (.Raise (some (.Call (.Name n np) (e :: es) [] cpos)) none pos) (tRaise C E t):=by
  intro pins s σ H D I h
  obtain ⟨nm,qn,N,bs,bm,hdct,sn,sub,ab,col,dd,k0,k1,k2,k3,k5,mN,hC,hN,hni,T0⟩:=exc_obj I.mod.kin hx
  have hpl':(backTo cpos (starEach (e :: es) X.env)).any (·.1) = false:=by rw [he]; exact hpl
  refine wpAny_Raise_call_subU (C:=C) (nm:=nm) (q:=qn) (N:=N) (bs:=bs) (hdct:=hdct) (sn:=sn) (sub:=sub) (ab:=ab) (col:=col) (dd:=dd) (k0:=k0) (k1:=k1) (k2:=k2) (k3:=k3) (k5:=k5)
    Fn hBn F.excBase_ValueError (T0.hasType (by decide)) (I.ok.hd hc) hpl' hni (mN:=mN) (ld_glob I hg hm ⟨rfl,?_⟩ hd)
  have hs:=ha cpos pins s σ H _ I h
  rw [he] at hs ⊢
  refine Calls.evalArgs_plain (thn hs fun us s1 ⟨vs,H1,I1,r,q1,q2⟩ => ?_)
  exact ⟨rfl,by rw [← r.length]; exact q1,I1.bk C _ hC,hN.keeps I1.bk,T0.keeps I1.bk,fun h' x m => hr pins σ H1 s1 h' x C us I1 m q2⟩
end L2
namespace L2
open PySem PySem.Spec PyProof.Rows
structure OkfX (P:Program) (w:World) (K:PySem.W.Frag) (mg:Str -> Option Value) (base:Heap) (k:Nat) (x:Str) (ps:List Str) (dvs:List V) (sp:Sp):Prop where
  ex:∃ (f:Addr) (fd:FuncData),mg x = some (.ref f) /\ PySem.W.keepIn K (.ref f) = true /\ Binds K fd ps [] /\ (∃ ds,Vals dvs ds /\ Binds K fd ps ds) /\ FnOk P w K mg base (CXe P w) k f fd ps sp
section
variable {P:Program} {w:World} {K:PySem.W.Frag} {mg:Str -> Option Value} {base:Heap} {j k:Nat} {x:Str} {st:Stmt} {N ps:List Str} {dvs:List V} {sp:Sp}
theorem OkfX.mono (o:OkfX P w K mg base j x ps dvs sp) (h:j <= k):OkfX P w K mg base k x ps dvs sp :=
  let ⟨f,fd,a,b,c,e,d⟩:=o.ex; ⟨f,fd,a,b,c,e,d.mono h⟩
theorem OkfX.of (d:Df K mg x st ps) (S:FnScope N ps (defScope st)) (len:∀ vs H Q E,sp vs H Q E -> vs.length = ps.length)
    (hbody:∀ (f:Addr) (cdv:Value) (A:Around) (outer:List Env) (s:Shared) (H:Hp) (vs:List V) (Q:VK) (E:XK),Room k (A.deeper (envOfC x (defScope st) s.heap.objs.size f cdv)) -> sp vs H Q E ->
      ∃ t,PSs (cxOf (CXe P w) P w K mg base N x (defScope st) f cdv A outer s H E) (defBody st) t /\ t { nx:=fun _ H' => Q .non H',rt:=Q } (start N vs) H):OkfX P w K mg base (k + 1) x ps [] sp:=by
  obtain ⟨f,fd,⟨oc,od,dV,kV,doc,pm,an,cdv,ct,osl,rfl,lk,hcd⟩,kp,a,b⟩:=d.ex
  exact ⟨f,_,a,kp,b,⟨[],.nil,b⟩,fn_of lk hcd S len fun A outer s H vs Q E hr hsp => hbody f cdv A outer s H vs Q E hr hsp⟩
end
section
variable {X:Cx} {k:Nat} {x:Str} {ps:List Str} {dvs:List V} {sp:Sp} {p pos:Pos} {e:Expr} {es:List Expr} {t:TA} {E:XK}
theorem pe_callX (o:OkfX X.prog X.w X.K X.mg X.base k x ps dvs sp) (hr:Room k X.A) (hg:Gl X x) (hx:Passes (CXe X.prog X.w) X E) (ha:PA X (e :: es) t) (hdb:(x == ("__debug__":Str)) = false:=by decide)
    (he:starEach (e :: es) X.env = (false,eval e X.env) :: starEach es X.env:=by rfl) (hpl:(backTo pos (starEach es X.env)).any (·.1) = false:=by rfl) :
    PE X (.Call (.Name x p) (e :: es) [] pos) (tCall sp [] E t):=by
  obtain ⟨f,fd,a,b,c,_,d⟩:=o.ex
  exact pe_call d hr hg a b c .nil hx ha hdb he hpl
end
theorem PS.nox {X:Cx} {st:Stmt} {t:TS} (h:PS X.nox st t):PS X st t:=fun pins s σ H D I hw =>
  wpAny_mono (h pins s σ H D (I.wish _) hw) (fun _ _ q => q.unwish) fun _ _ z => False.elim z
structure Frsh (X:Cx) (pins:List (Addr×Obj)) (H:Hp) (a:Addr):Prop where
  h:H a = none
  s:X.s₀.heap.get? a = none
  l:a ≠ X.env.locals
  c:∀ n c,X.env.cells.lookup n = some c -> c ≠ a
  p:∀ p ∈ X.pn ++ pins,p.1 ≠ a
theorem Inv.kpt {X:Cx} {pins:List (Addr×Obj)} {σ:St} {H:Hp} {s:Shared} {xs:List Addr} {h':Heap} (I:Inv X pins σ H s) (k:Kpt (frs X.stack) xs s.heap h') (hx:∀ b ∈ xs,Frsh X pins H b):Inv X pins σ H { s with heap:=h' }:=by
  have neL:∀ b o,X.s₀.heap.get? b = some o -> b ≠ X.env.locals:=fun b o e => Nat.ne_of_lt (Nat.lt_of_lt_of_le (Heap.lt_size e) I.ok.above)
  have nX:∀ b o,X.s₀.heap.get? b = some o -> b ∉ xs:=fun b o e z => by rw [(hx b z).s] at e; cases e
  have nS:∀ b,b ≠ X.env.locals -> b ∉ X.fs -> b ∉ frs X.stack:=fun b h1 h2 z => (List.mem_cons.mp (I.stkSub b z)).elim h1 h2
  have lX:X.env.locals ∉ xs:=fun z => (hx _ z).l rfl
  have cX:∀ n c,X.env.cells.lookup n = some c -> c ∉ xs:=fun n c e z => (hx _ z).c n c e rfl
  have cellK:∀ x c,X.env.cells.lookup x = some c -> ∀ v,s.heap.IsCell c v -> h'.IsCell c v:=fun x c e v ⟨o,ho,hd⟩ => by
    obtain ⟨sl,q⟩:=k.there ho (cX x c e)
    exact ⟨_,q,hd⟩
  refine ⟨I.ok,I.os,I.bare,⟨fun b o e n hb hx => ?_,fun b o e n hb hx => ?_,I.base.free,fun b o e hx => ?_,I.base.tups,I.base.frzs,I.base.tbls⟩,?_,fun x c e => ?_,I.free,I.freeC,fun p hp => ?_,I.hok.kpt k (fun b hb => I.stkFree b hb) fun b hb => (hx b hb).h,I.len⟩
  . exact k.keep b o (I.base.keep b o e n hb hx) (nS b (neL b o e) hb) (nX b o e)
  . obtain ⟨sl,q⟩:=I.base.slot b o e n hb hx
    obtain ⟨sl',q'⟩:=k.there q (nX b o e)
    exact ⟨sl',q'⟩
  . obtain ⟨o',q⟩:=I.base.there b o e hx
    obtain ⟨sl',q'⟩:=k.there q (nX b o e)
    exact ⟨_,q'⟩
  . obtain ⟨m,⟨o,es,ep,ho,r⟩,hl⟩:=I.loc
    obtain ⟨sl,q⟩:=k.there ho lX
    refine ⟨m,⟨_,es,ep,q,r⟩,fun i x v e1 e2 e3 => ?_⟩
    obtain ⟨u,rv,l⟩:=hl i x v e1 e2 e3
    refine ⟨u,rv,?_⟩
    rcases l with l | ⟨kk,c,e,z⟩
    . exact .inl l
    . exact .inr ⟨kk,c,e,cellK x c e _ z⟩
  . obtain ⟨v,z⟩:=I.cell x c e
    exact ⟨v,cellK x c e v z⟩
  . obtain ⟨e,n,ne,nf,d⟩:=I.pin p hp
    exact ⟨k.keep p.1 p.2 e (nS _ ne nf) (fun z => (hx _ z).p p hp rfl),n,ne,nf,d⟩
theorem Inv.frsh {X:Cx} {pins:List (Addr×Obj)} {σ:St} {H H':Hp} {s:Shared} {a:Addr} (I:Inv X pins σ H s) (hex:X.ex = []) (e:s.heap.get? a = none) (h:H' a = none):Frsh X pins H' a where
  h:=h
  s:=by
    have u:Un X.fs [] X.H₀ H X.s₀.heap s.heap:=hex ▸ I.base
    exact u.was e
  l:=fun z => by
    obtain ⟨m,⟨o,es,ep,ho,r⟩,_⟩:=I.loc
    rw [← z,e] at ho; cases ho
  c:=fun n c q z => by
    obtain ⟨v,o,ho,hd⟩:=I.cell n c q
    rw [z,e] at ho; cases ho
  p:=fun p hp z => by
    obtain ⟨q,_⟩:=I.pin p hp
    rw [z,e] at q; cases q
noncomputable def caught (X:Cx) (pins:List (Addr×Obj)) (σ:St) (E:XK) (e:Value) (s':Shared):Prop:=∃ x T C H',e = .ref x /\ Inv X pins σ H' s' /\ Fly x T C s'.heap /\ Frsh X pins H' x /\ Frsh X pins H' T /\ E (.ref C) none H'
theorem caught_of {X:Cx} {pins:List (Addr×Obj)} {σ:St} {H:Hp} {s s':Shared} {E:XK} {e:Value} (hex:X.ex = []) (I:Inv X pins σ H s) (h:CXe X.prog X.w X.stack H s E e s'):caught X pins σ E e s':=by
  obtain ⟨x,T,C,H',rfl,ho,hg,un,hok,nx,nT,hx,hT,fl,q⟩:=h
  exact ⟨x,T,C,H',rfl,I.call' (ch:=[]) ho un hok hg (fun b z => absurd z (by simp)),fl,I.frsh hex nx hx,I.frsh hex nT hT,q⟩
noncomputable abbrev TEX:=St -> Hp -> VK -> XK -> Prop
noncomputable abbrev TX:=Ends -> XK -> St -> Hp -> Prop
noncomputable def PEX (X:Cx) (e:Expr) (t:TEX):Prop :=
  ∀ (pins:List (Addr×Obj)) (s:Shared) (σ:St) (H:Hp) (Q:VK) (E:XK),Inv X pins σ H s -> t σ H Q E -> wpAny (model X.prog X.w) X.A (eval e X.env) (EP X pins σ Q) (caught X pins σ E) s
noncomputable def PX (X:Cx) (st:Stmt) (t:TX):Prop :=
  ∀ (pins:List (Addr×Obj)) (s:Shared) (σ:St) (H:Hp) (D:Ends) (E:XK),Inv X pins σ H s -> t D E σ H -> wpAny (model X.prog X.w) X.A (exec st X.env) (SP X pins D) (caught X pins σ E) s
noncomputable def tCallX (sp:Sp) (dvs:List V) (t:TA):TEX:=fun σ H Q E => t σ H fun vs H1 => sp (vs ++ dvs) H1 Q E
section
variable {X:Cx} {k:Nat} {f:Addr} {fd:FuncData} {x:Str} {ps:List Str} {dvs:List V} {ds:List Value} {sp:Sp} {p pos:Pos} {e:Expr} {es:List Expr} {t:TA} {E:XK}
theorem pex_run (F:FnOk X.prog X.w X.K X.mg X.base (CXe X.prog X.w) k f fd ps sp) (hex:X.ex = []) (hxe:∀ e s,X.xe e s -> False) (hr:Room k X.A) (hg:Gl X x) (hm:X.mg x = some (.ref f)) (hk:PySem.W.keepIn X.K (.ref f) = true) (hb:Binds X.K fd ps ds) (hd:Vals dvs ds)
    (ha:PA X (e :: es) t) (hdb:(x == ("__debug__":Str)) = false) (he:starEach (e :: es) X.env = (false,eval e X.env) :: starEach es X.env) (hpl:(backTo pos (starEach es X.env)).any (·.1) = false) :
    PEX X (.Call (.Name x p) (e :: es) [] pos) (tCallX sp dvs t):=by
  intro pins s σ H Q E I h
  refine wpAny_Call_Name_kw (ld_glob I hg hm ?_ hdb)
  refine PySem.W.callWith_K (h₀:=X.base) I.ok.mod.kin hk (wpAny_mono (ha pos pins s σ H _ I h) (fun us s1 ⟨vs,H1,I1,r,q⟩ => ⟨I1.kIn,?_⟩) fun e s z => (hxe e s z).elim) he hpl
  have r2:Vals (vs ++ dvs) (us ++ ds):=r.append hd
  have hl:(us ++ ds).length = ps.length:=by rw [← r2.length]; exact F.len _ _ _ _ q
  refine wpAny_call (codeAny_mono (F.run X.A X.stack s1 H1 ⟨us,[]⟩ (us ++ ds) (vs ++ dvs) Q E hr I1.env0 (hb s1 us I1.kIn hl) r2 q) fun r s' hq => ?_)
  cases r with
  | error e => exact caught_of hex I1 hq
  | ok fl =>
    cases fl with
    | ret u => exact I1.after hq
    | next => exact False.elim hq
    | brk => exact False.elim hq
    | cont => exact False.elim hq
theorem pex_call (o:OkfX X.prog X.w X.K X.mg X.base k x ps dvs sp) (hex:X.ex = []) (hxe:∀ e s,X.xe e s -> False) (hr:Room k X.A) (hg:Gl X x) (ha:PA X (e :: es) t) (hdb:(x == ("__debug__":Str)) = false:=by decide)
    (he:starEach (e :: es) X.env = (false,eval e X.env) :: starEach es X.env:=by rfl) (hpl:(backTo pos (starEach es X.env)).any (·.1) = false:=by rfl) :
    PEX X (.Call (.Name x p) (e :: es) [] pos) (tCallX sp [] t):=by
  obtain ⟨f,fd,a,b,c,_,d⟩:=o.ex
  exact pex_run d hex hxe hr hg a b c .nil ha hdb he hpl
end
end L2
namespace L2
open PySem PySem.Spec PyProof.Rows
section
variable {X:Cx} {e:Expr} {te:TEX} {pos:Pos}
noncomputable def xDrop (te:TEX):TX:=fun D E σ H => te σ H (fun _ H1 => D.nx σ H1) E
end
noncomputable abbrev Cx.hld (X:Cx) (x:Addr):Cx:={ X with A:=X.A.mark (some (.ref x)),calm:=false,xe:=fun _ _ => False }
section
variable {X:Cx} {pins:List (Addr×Obj)} {σ:St} {H:Hp} {s:Shared} {x:Addr}
theorem Inv.hld (I:Inv X pins σ H s) (x:Addr):Inv (X.hld x) pins σ H s :=
  ⟨⟨I.ok.mod,I.ok.kind,I.ok.glob,I.ok.blt,I.ok.above,I.ok.inj,I.ok.has,I.ok.cab,(fun z => nomatch z),I.ok.frames,I.ok.stk,I.ok.exf,I.ok.bs,I.ok.bsz,I.ok.noex,I.ok.exfs,I.ok.funs,I.ok.frf⟩,I.os,I.bare,I.base,I.loc,I.cell,I.free,I.freeC,I.pin,I.hok,I.len⟩
theorem Inv.unhld (hd:X.calm = true -> X.A.handled = none) (I:Inv (X.hld x) pins σ H s):Inv X pins σ H s :=
  ⟨⟨I.ok.mod,I.ok.kind,I.ok.glob,I.ok.blt,I.ok.above,I.ok.inj,I.ok.has,I.ok.cab,hd,I.ok.frames,I.ok.stk,I.ok.exf,I.ok.bs,I.ok.bsz,I.ok.noex,I.ok.exfs,I.ok.funs,I.ok.frf⟩,I.os,I.bare,I.base,I.loc,I.cell,I.free,I.freeC,I.pin,I.hok,I.len⟩
theorem goes_ok {M:Model} {A:Around} {E:Value -> Shared -> Prop} {i:Nat} {n:Str} {pos:Pos} {Q:Unit -> Shared -> Prop} (I:Inv X pins σ H s) (hN:X.N.Nodup) (hi:X.N[i]? = some n) (hl:X.env.scope.names.lookup n = some .local)
    (h:∀ s',Inv X pins (σ.set i none) H s' -> Q () s'):wpAny M A (do bindName X.env n .none; unbindBehindTheSuite X.env n pos) Q E s:=by
  obtain ⟨m,hn,hv⟩:=id I.loc
  have hcls:(X.env.scope.kind == .class || (X.env.scope.kind == .module && X.env.locals != X.env.globals)) = false:=by rw [I.ok.kind]; rfl
  refine wpAny_nameGoes_keeps hl hn hcls fun h' v hn' hs => h _ ?_
  have old:∀ b o,X.s₀.heap.get? b = some o -> b ≠ X.env.locals:=fun b o e => Nat.ne_of_lt (Nat.lt_of_lt_of_le (Heap.lt_size e) I.ok.above)
  refine ⟨I.ok,I.os,I.bare,⟨fun b o e n hb hx => (hs.2 b (old b o e)).trans (I.base.keep b o e n hb hx),fun b o e n hb hx => ?_,I.base.free,fun b o e hx => ?_,I.base.tups,I.base.frzs,I.base.tbls⟩,⟨_,hn',fun j y v' e1 e2 e3 => ?_⟩,fun y c e => ?_,I.free,I.freeC,fun p hp => ?_,?_,by simpa using I.len⟩
  . obtain ⟨sl,e1⟩:=I.base.slot b o e n hb hx
    exact ⟨sl,(hs.2 b (old b o e)).trans e1⟩
  . obtain ⟨o',e1⟩:=I.base.there b o e hx
    exact ⟨o',(hs.2 b (old b o e)).trans e1⟩
  . have hj:j ≠ i:=fun z => by
      rw [z] at e2
      by_cases hi':i < σ.length
      . rw [List.getElem?_set_self hi'] at e2; cases e2
      . rw [List.getElem?_eq_none (by rw [List.length_set]; omega)] at e2; cases e2
    rw [List.getElem?_set_ne (Ne.symm hj)] at e2
    obtain ⟨u',r',q⟩:=hv j y v' e1 e2 e3
    refine ⟨u',r',?_⟩
    rcases q with ⟨k,e⟩ | ⟨k,c,e,z⟩
    . refine .inl ⟨k,?_⟩
      have:y ≠ n:=fun e => hj (nodup_ix hN e1 (e ▸ hi))
      show (if y = n then v else m y) = some u'
      rw [if_neg this]; exact e
    . exact .inr ⟨k,c,e,z.sameBut hs (I.cne y c e)⟩
  . obtain ⟨w',z⟩:=I.cell y c e
    exact ⟨w',z.sameBut hs (I.cne y c e)⟩
  . obtain ⟨e,n,ne,nf,d⟩:=I.pin p hp
    exact ⟨(hs.2 p.1 ne).trans e,n,ne,nf,d⟩
  . intro b ob e
    refine (I.hok b ob e).stay (fun c w' hc q => (hs.2 c ?_).trans q) (fun _ q => q) fun _ _ q => q
    rintro rfl
    rcases hc with rfl | hc
    . rw [I.free] at e; cases e
    . rw [I.free] at hc; cases hc
theorem Inv.track {a:Addr} {o:HO} (I:Inv X pins σ H s) (fr:Frsh X pins H a) (new:ObjOk X.prog X.w (upd H a o) s.heap a o):Inv X pins σ (upd H a o) s:=by
  refine ⟨I.ok,I.os,I.bare,I.base.track fr.h fr.s,I.loc,I.cell,?_,fun x c e => ?_,fun p hp => ?_,I.hok.track fr.h new,I.len⟩
  . rw [upd_ne (Ne.symm fr.l)]; exact I.free
  . rw [upd_ne (fr.c x c e)]; exact I.freeC x c e
  . obtain ⟨e,n,r⟩:=I.pin p hp
    exact ⟨e,by rw [upd_ne (fr.p p hp)]; exact n,r⟩
end
noncomputable def tTry (K:PySem.W.Frag) (CT:Addr) (i:Nat) (tb:TX) (ts:Addr -> TS):TS:=fun D σ H => tb D (fun cv _ H' => ∃ C,cv = .ref C /\ PySem.W.exmOne K (.ref C) (.ref CT) = some true /\
  ∀ x,H' x = none -> ts x ⟨fun σ' H2 => D.nx (σ'.set i none) H2,D.rt,fun σ' H2 => D.bk (σ'.set i none) H2,fun σ' H2 => D.ct (σ'.set i none) H2⟩ (σ.set i (some (.ref x))) (upd H' x (excO x C))) σ H
section
variable {X:Cx}
theorem ps_try {CT:Addr} {nc n:Str} {i:Nat} {st s0:Stmt} {suite:List Stmt} {tb:TX} {ts:Addr -> TS} {np hp pos:Pos} (hex:X.ex = []) (hst:X.stack = X.env :: X.outer) (hfr:X.env.frame = some X.env.locals)
    (hg:Gl X nc) (hm:X.mg nc = some (.ref CT)) (hN:X.N.Nodup) (hi:X.N[i]? = some n) (hl:X.env.scope.names.lookup n = some .local) (hb:PX X st tb) (hs:∀ x,PSs (X.hld x) (s0 :: suite) (ts x)) (hd:(nc == ("__debug__":Str)) = false:=by decide) :
    PS X (.Try [st] [.ExceptHandler (some (.Name nc np)) (some n) (s0 :: suite) hp] [] [] pos) (tTry X.K CT i tb ts):=by
  intro pins s σ H D I h
  refine wpAny_Try_except (wpAny_execs_cons (wpAny_mono (hb pins s σ H D _ I h) (fun f s1 q => ?_) fun e s1 q => ?_))
  . cases f with
    | next => exact wpAny_execs_nil (wpAny_execs_nil q)
    | ret v => exact q
    | brk => exact q
    | cont => exact q
  . obtain ⟨x,T,C,H',rfl,I1,fl,fx,fT,C',hC,hm1,q⟩:=q
    cases hC
    have mov:∀ {s2:Shared} {h2:Heap} {T1 T2:Addr},Inv X pins σ H' s2 -> Frsh X pins H' T1 -> (T2 = T1 ∨ s2.heap.get? T2 = none) -> Kpt (frs X.stack) [x,T1] s2.heap h2 -> Inv X pins σ H' { s2 with heap:=h2 } /\ Frsh X pins H' T2:=fun {s2 h2 T1 T2} J f1 z k => by
      refine ⟨J.kpt k fun b hb => ?_,?_⟩
      . rcases List.mem_cons.mp hb with e | e
        . rw [e]; exact fx
        . rw [List.mem_singleton.mp e]; exact f1
      . rcases z with z | z
        . rw [z]; exact f1
        . exact J.frsh hex z (J.hok.none_of z)
    have hfr':X.A.frames = some (X.env :: X.outer):=hst ▸ I1.ok.frames
    have hF1:s1.heap.FunFrames X.base (X.env :: X.outer):=hst ▸ I1.stack
    refine fly_note hfr' hfr hF1 fl fun h2 T2 fl2 z2 k2 => ?_
    obtain ⟨I2,fT2⟩:=mov I1 fT z2 (hst ▸ k2)
    refine wpAny_handleBy_cons (codeAny_handlers_test (ld_glob (I2.hld x) hg hm ?_ hd)) (by intro q; cases q)
    refine (PySem.W.exm_one I2.kIn (fl2.exR.kitR.ty _) hm1).here ?_
    refine codeAny_handlers_suite_as ?_
    refine fly_again (l:=X.stack) fl2 fun h3 fl3 k3 => ?_
    obtain ⟨I3,_⟩:=mov I2 fT2 (.inl rfl) k3
    have I4:=I3.track fx (excO_ok (C:=C) fl3.exR)
    refine store_ok (v:=.ref x) I4 hN hi (.inl hl) rfl (fun s5 I5 => ?_) (.inr hl)
    refine wpAny_mono (hs x pins s5 _ _ _ (I5.hld x) (q x fx.h)) (fun f s6 q6 => ?_) fun _ _ z => z.elim
    cases f with
    | next =>
      obtain ⟨σ',H2,I6,q6⟩:=q6
      exact goes_ok (I6.unhld I.ok.hd) hN hi hl fun s7 I7 => ⟨_,H2,I7,q6⟩
    | brk =>
      obtain ⟨σ',H2,I6,q6⟩:=q6
      exact goes_ok (I6.unhld I.ok.hd) hN hi hl fun s7 I7 => ⟨_,H2,I7,q6⟩
    | cont =>
      obtain ⟨σ',H2,I6,q6⟩:=q6
      exact goes_ok (I6.unhld I.ok.hd) hN hi hl fun s7 I7 => ⟨_,H2,I7,q6⟩
    | ret u =>
      obtain ⟨v,σ',H2,I6,r,q6⟩:=q6
      exact goes_ok (I6.unhld I.ok.hd) hN hi hl fun s7 I7 => ⟨v,_,H2,I7,r,q6⟩
end
end L2
namespace L2
open PySem PySem.Spec PyProof.Rows
section
variable {X:Cx} {e:Expr} {te:TEX} {pos:Pos}
noncomputable def xSet (te:TEX) (i:Nat):TX:=fun D E σ H => te σ H (fun v H1 => D.nx (σ.set i (some v)) H1) E
theorem px_set {i:Nat} {x:Str} {pos':Pos} (hN:X.N.Nodup) (hi:X.N[i]? = some x) (hx:Loc X.env.scope x) (he:PEX X e te) (hs:swapsWith e (some (.Name x pos')) pos.line X.env = pure false:=by rfl)
    (hf:X.fn x = true ∨ X.env.scope.names.lookup x = some .local:=by first | exact .inl rfl | exact .inr rfl | assumption):PX X (.Assign [.Name x pos'] e pos) (xSet te i):=by
  intro pins s σ H D E I h
  refine wpAny_Assign_Name (thn (he pins s σ H _ E I h) fun v s1 ⟨y,H1,I1,r1,q1⟩ => ?_) hs
  exact store_ok I1 hN hi hx r1 (fun s2 I2 => ⟨_,H1,I2,q1⟩) hf
noncomputable def xRet (te:TEX):TX:=fun D E σ H => te σ H D.rt E
end
section
variable {X:Cx}
end
end L2
namespace L2
open PySem PySem.Spec PyProof.Rows
section
variable {prog:Program} {w:World} {A:Around} {E:Value -> Shared -> Prop} {s:Shared}
end
noncomputable def HasX (y:Addr) (H:Hp):Prop:=∃ C,H y = some (excO y C)
noncomputable def ItrH (y:Addr) (lo:Int) (n:Nat):It:=⟨fun i _ => i < n,fun i H x H' => H' = H /\ x = .int (lo + i),fun i H => n <= i /\ HasX y H⟩
section
variable {X:Cx} {tg:Expr} {y:Addr}
noncomputable def iRng1H (y:Addr) (ta:TA):TI:=fun σ H R => ta σ H fun vs H1 => ∃ j:Int,vs = [.int j] /\ -(2 ^ 62) <= j /\ j < 2 ^ 62 /\ R (ItrH y 0 j.toNat) H1
variable {scope:Scope} {tn names:List Str} {is:List Nat} {elt iter:Expr} {ifs:List Expr} {pos:Pos} {wi:TI} {te:TE} {tc:Option TT} {g:TG}
end
section
variable {te:TE} {Q:VK} {H:Hp} {caps:St} {y:Addr}
end
structure RoomH (k:Nat) (A:Around):Prop where
  dp:A.depth + 3 * k + 5 < recursionLimit
  un:A.units + 16 * k + 200 < cLine
theorem Room.h {k:Nat} {A:Around} (r:Room k A) (v:Option Value):RoomH k (A.mark v):=⟨r.dp,r.un⟩
theorem RoomH.mono {j k:Nat} {A:Around} (r:RoomH k A) (h:j <= k):RoomH j A:=⟨by have:=r.dp; omega,by have:=r.un; omega⟩
theorem RoomH.deeper {k:Nat} {A:Around} (r:RoomH (k + 1) A) (env:Env):RoomH k (A.deeper env) :=
  ⟨by have:=r.dp; show A.depth + 1 + 3 * k + 5 < _; omega,by have:=r.un; show A.units + 3 + 16 * k + 200 < _; omega⟩
structure FnH (P:Program) (w:World) (K:PySem.W.Frag) (mg:Str -> Option Value) (base:Heap) (k:Nat) (f:Addr) (fd:FuncData) (ps:List Str) (sp:Addr -> Sp):Prop where
  len:∀ y vs H Q E,sp y vs H Q E -> vs.length = ps.length
  run:∀ (y:Addr) (A:Around) (outer:List Env) (s:Shared) (H:Hp) (args:Args) (us:List Value) (vs:List V) (Q:VK),RoomH k A -> A.handled = some (.ref y) -> Env0 P w K mg base A outer s H -> BindsTo s fd args (ps.zip us) -> Vals vs us -> sp y vs H Q E0 ->
    codeAny (model P w) A (.call (.ref f) args) (CR CX0 outer P w H s Q E0) s
noncomputable abbrev cxH (P:Program) (w:World) (K:PySem.W.Frag) (mg:Str -> Option Value) (base:Heap) (N:List Str) (qual:Str) (scope:Scope) (f:Addr) (cd:Value) (A:Around) (outer:List Env) (s:Shared) (H:Hp):Cx :=
  { cxOf CX0 P w K mg base N qual scope f cd A outer s H E0 with calm:=false,xe:=fun _ _ => False }
theorem inv_h {P:Program} {w:World} {K:PySem.W.Frag} {mg:Str -> Option Value} {base:Heap} {N:List Str} {qual:Str} {scope:Scope} {f:Addr} {cd:Value} {A:Around} {outer:List Env} {s:Shared} {H H1:Hp} {pins:List (Addr×Obj)} {σ:St} {s1:Shared}
    (fr:(A.deeper (envOfC qual scope s.heap.objs.size f cd)).frames = some (envOfC qual scope s.heap.objs.size f cd :: outer)) (I:Inv (cxOf CX0 P w K mg base N qual scope f cd { A with handled:=none } outer s H E0) pins σ H1 s1):Inv (cxH P w K mg base N qual scope f cd A outer s H) pins σ H1 s1 :=
  ⟨⟨I.ok.mod,I.ok.kind,I.ok.glob,I.ok.blt,I.ok.above,I.ok.inj,I.ok.has,I.ok.cab,(fun z => nomatch z),fr,I.ok.stk,I.ok.exf,I.ok.bs,I.ok.bsz,I.ok.noex,I.ok.exfs,I.ok.funs,I.ok.frf⟩,I.os,I.bare,I.base,I.loc,I.cell,I.free,I.freeC,I.pin,I.hok,I.len⟩
theorem fn_ofH {P:Program} {w:World} {K:PySem.W.Frag} {mg:Str -> Option Value} {base:Heap} {k:Nat} {f:Addr} {name qual:Str} {params:Arguments} {body:List Stmt} {scope:Scope} {dV kV doc pm cdv ct oc:Value} {an od:Option Addr}
    {osl:Array (Option Value)} {N ps:List Str} {sp:Addr -> Sp} (lk:K.lookup f = some ⟨oc,od,.func (PySem.W.fnOf name qual params body scope dV kV doc pm an cdv ct),osl⟩) (hcd:PySem.W.codeIn K cdv qual = true) (S:FnScope N ps scope)
    (len:∀ y vs H Q E,sp y vs H Q E -> vs.length = ps.length)
    (hbody:∀ (y:Addr) (A:Around) (outer:List Env) (s:Shared) (H:Hp) (vs:List V) (Q:VK),RoomH k (A.deeper (envOfC qual scope s.heap.objs.size f cdv)) -> A.handled = some (.ref y) -> sp y vs H Q E0 ->
      ∃ t,PSs (cxH P w K mg base N qual scope f cdv A outer s H) body t /\ t { nx:=fun _ H' => Q .non H',rt:=Q } (start N vs) H) :
    FnH P w K mg base (k + 1) f (PySem.W.fnOf name qual params body scope dV kV doc pm an cdv ct) ps sp:=by
  refine ⟨len,fun y A outer s H args us vs Q hr hh e0 hb r hsp => ?_⟩
  have hl:=len _ _ _ _ _ hsp
  have KX:K.In s.heap:=e0.mod.kin.keeps fun b o e => (e0.bs b o e).1
  have lim:s.heap.NoLimit:=e0.mod.nolimit.keeps fun b o e => (e0.bs b o e).1
  have hkind:∀ y ∈ ps.zip us,scope.names.lookup y.1 = some .local ∨ (scope.names.lookup y.1 = some .cell /\ ((cellsFrom (s.heap.objs.size + 1) scope.names []).lookup y.1).isSome = true):=fun ⟨n,v⟩ hy => by
    rcases S.par n (List.of_mem_zip hy).1 with q | q
    . exact .inl q
    . exact .inr ⟨q,PySem.W.cellsFrom_some _ _ _ (.inl q)⟩
  refine codeAny_call_function (by have:=hr.dp; omega) (KX _ _ lk) rfl S.co S.gen rfl (PySem.W.codeRec_of KX hcd) (hb _ _ _ _ ?_)
  refine wpAny_newFunctionEnv_cells S.kind hkind fun env he s1 x => ?_
  subst he
  refine ⟨lim.keeps x.toInCall.keep,codeAny_func ?_⟩
  obtain ⟨t,ht,hq⟩:=hbody y A outer s H vs Q (hr.deeper _) hh hsp
  have e0':Env0 P w K mg base { A with handled:=none } outer s H:=⟨e0.frames,e0.mod,e0.bs,e0.bsz,e0.funs,e0.frf,e0.hok,e0.bare⟩
  have I:Inv (cxH P w K mg base N qual scope f cdv A outer s H) [] (start N vs) H s1:=inv_h (Around.frames_deeper e0.frames) (inv_start S rfl e0' hl r x)
  refine wpAny_mono (ht [] s1 (start N vs) H _ I hq) (fun fl s' hs => ?_) fun e s' hs => hs.elim
  have fin:∀ {σ':St} {H':Hp} {v:V} {u:Value},Inv (cxH P w K mg base N qual scope f cdv A outer s H) [] σ' H' s' -> RelV v u -> Q v H' -> CE outer P w H s Q u s' :=
    fun {σ' H' v u} J rv q => ⟨v,H',J.os,J.bare,J.base,J.hok,rv,q⟩
  cases fl with
  | ret u =>
    obtain ⟨v,σ',H',J,rv,q⟩:=hs
    exact fin J rv q
  | next =>
    obtain ⟨σ',H',J,q⟩:=hs
    exact fin (v:=V.non) (u:=Value.none) J rfl q
  | brk =>
    obtain ⟨_,_,_,q⟩:=hs
    exact False.elim q
  | cont =>
    obtain ⟨_,_,_,q⟩:=hs
    exact False.elim q
structure OkfH (P:Program) (w:World) (K:PySem.W.Frag) (mg:Str -> Option Value) (base:Heap) (k:Nat) (x:Str) (ps:List Str) (sp:Addr -> Sp):Prop where
  ex:∃ (f:Addr) (fd:FuncData),mg x = some (.ref f) /\ PySem.W.keepIn K (.ref f) = true /\ Binds K fd ps [] /\ FnH P w K mg base k f fd ps sp
theorem OkfH.mono {P:Program} {w:World} {K:PySem.W.Frag} {mg:Str -> Option Value} {base:Heap} {j k:Nat} {x:Str} {ps:List Str} {sp:Addr -> Sp} (o:OkfH P w K mg base j x ps sp) (h:j <= k):OkfH P w K mg base k x ps sp :=
  let ⟨f,fd,a,b,c,d⟩:=o.ex; ⟨f,fd,a,b,c,d.len,fun y A outer s H args us vs Q hr => d.run y A outer s H args us vs Q (hr.mono h)⟩
theorem OkfH.of {P:Program} {w:World} {K:PySem.W.Frag} {mg:Str -> Option Value} {base:Heap} {k:Nat} {x:Str} {st:Stmt} {N ps:List Str} {sp:Addr -> Sp} (d:Df K mg x st ps) (S:FnScope N ps (defScope st)) (len:∀ y vs H Q E,sp y vs H Q E -> vs.length = ps.length)
    (hbody:∀ (y f:Addr) (cdv:Value) (A:Around) (outer:List Env) (s:Shared) (H:Hp) (vs:List V) (Q:VK),RoomH k (A.deeper (envOfC x (defScope st) s.heap.objs.size f cdv)) -> A.handled = some (.ref y) -> sp y vs H Q E0 ->
      ∃ t,PSs (cxH P w K mg base N x (defScope st) f cdv A outer s H) (defBody st) t /\ t { nx:=fun _ H' => Q .non H',rt:=Q } (start N vs) H):OkfH P w K mg base (k + 1) x ps sp:=by
  obtain ⟨f,fd,⟨oc,od,dV,kV,doc,pm,an,cdv,ct,osl,rfl,lk,hcd⟩,kp,a,b⟩:=d.ex
  exact ⟨f,_,a,kp,b,fn_ofH lk hcd S len fun y A outer s H vs Q hr hh hsp => hbody y f cdv A outer s H vs Q hr hh hsp⟩
noncomputable def tCallH (sp:Sp) (t:TA):TE:=fun σ H Q => t σ H fun vs H1 => sp vs H1 Q E0
theorem r_callH {sp:Sp} {t:TA} {σ:St} {H:Hp} {Q:VK} (k:t σ H fun vs H1 => sp vs H1 Q E0):tCallH sp t σ H Q:=k
section
variable {X:Cx} {k:Nat} {x:Str} {ps:List Str} {sp:Addr -> Sp} {p pos:Pos} {e:Expr} {es:List Expr} {t:TA} {y:Addr}
end
end L2
namespace L2
open PySem PySem.Spec PyProof.Rows
noncomputable def XrE (K:PySem.W.Frag) (C:Addr):Prop:=∃ (newId Bn inN:String) (bmN:List Value),PySem.W.excIn K C bmVE newId = true /\ ExcBaseFacts Bn newId inN bmN /\ bmVE.contains (.type Bn) = true
theorem XrE.ve {K:PySem.W.Frag} {C:Addr} (h:PySem.W.excIn K C bmVE "ValueError.__new__" = true):XrE K C:=⟨_,_,_,_,h,F.excBase_ValueError,by decide⟩
theorem XrE.ex {K:PySem.W.Frag} {C:Addr} (h:PySem.W.excIn K C bmVE "Exception.__new__" = true):XrE K C:=⟨_,_,_,_,h,F.excBase_Exception,by decide⟩
theorem bt_ValueError:bootBuiltins "ValueError" = some (.type "ValueError"):=by decide +kernel
theorem RoomH.units {k:Nat} {A:Around} (r:RoomH k A):A.units + 64 < cLine:=by have:=r.un; omega
section
variable {X:Cx}
theorem ps_raiseR {E:XK} {C:Addr} {n:Str} {e:Expr} {es:List Expr} {t:TA} {np cpos pos:Pos} (hr:Raises X E) (hc:X.calm = true) (hg:Gl X n) (hm:X.mg n = some (.ref C)) (hx:XrE X.K C) (ha:PA X (e :: es) t)
    (hd:(n == ("__debug__":Str)) = false:=by decide) (he:starEach (e :: es) X.env = (false,eval e X.env) :: starEach es X.env:=by rfl) (hpl:(backTo cpos (starEach es X.env)).any (·.1) = false:=by rfl) :
    PS X (.Raise (some (.Call (.Name n np) (e :: es) [] cpos)) none pos) (tRaise C E t):=by
  obtain ⟨newId,Bn,inN,bmN,h1,h2,h3⟩:=hx
  exact ps_raise hr hc hg hm h1 h2 h3 ha hd he hpl
noncomputable def rIsX (K:PySem.W.Frag):List V -> Hp -> VK -> Prop:=fun xs H Q => ∃ y C v c b,xs = [.ref y,v] /\ H y = some (excO y C) /\ XCls K C /\ RelV v c /\ PySem.W.kitOne K (.ref C) c = some b /\ Q (.bl b) H
theorem call_isX:CallR X (.builtin "isinstance") (rIsX X.K):=by
  intro pins s σ H xs us Q I r h
  obtain ⟨y,C,v,c,b,rfl,hy,z,rc,e,q⟩:=h
  obtain ⟨u,u',rfl,ru,rv⟩:=Vals.two r
  obtain rfl:u = Value.ref y:=ru
  have ec:u' = c:=by
    cases v with
    | ref a => exact rv.trans rc.symm
    | ty n => exact rv.trans rc.symm
    | non => exact rv.trans rc.symm
    | bl a => exact rv.trans rc.symm
    | int _ => obtain ⟨t,rfl⟩:=rc; simp [PySem.W.kitOne,PySem.W.kitCls] at e
    | str _ => obtain ⟨t,rfl⟩:=rc; simp [PySem.W.kitOne,PySem.W.kitCls] at e
    | byt _ => obtain ⟨t,rfl⟩:=rc; simp [PySem.W.kitOne,PySem.W.kitCls] at e
    | flt _ => obtain ⟨t,rfl⟩:=rc; simp [PySem.W.kitOne,PySem.W.kitCls] at e
  subst ec
  exact PySem.W.kia_one (kitx_exc z) I.kIn (I.hok y _ hy).1.kitR e (by intro q; cases q) fun tk => ⟨.bl b,H,I.tok tk,rfl,q⟩
end
section
variable {K:PySem.W.Frag} {σ:St} {H:Hp} {Q:VK} {D:Ends} {E:XK}
theorem r_isXc {y C c:Addr} {b:Bool} (hy:H y = some (excO y C)) (z:XCls K C) (e:PySem.W.kitOne K (.ref C) (.ref c) = some b) (k:Q (.bl b) H):rIsX K [.ref y,.ref c] H Q:=⟨y,C,_,_,b,rfl,hy,z,rfl,e,k⟩
theorem r_isXt {y C:Addr} {T:String} {b:Bool} (hy:H y = some (excO y C)) (z:XCls K C) (e:PySem.W.kitOne K (.ref C) (.type T) = some b) (k:Q (.bl b) H):rIsX K [.ref y,.ty T] H Q:=⟨y,C,_,_,b,rfl,hy,z,rfl,e,k⟩
noncomputable def tryE (K:PySem.W.Frag) (CT:Addr) (i:Nat) (ts:Addr -> TS) (D:Ends) (σ:St):XK:=fun cv _ H' => ∃ C,cv = .ref C /\ PySem.W.exmOne K (.ref C) (.ref CT) = some true /\
  ∀ x,H' x = none -> ts x ⟨fun σ' H2 => D.nx (σ'.set i none) H2,D.rt,fun σ' H2 => D.bk (σ'.set i none) H2,fun σ' H2 => D.ct (σ'.set i none) H2⟩ (σ.set i (some (.ref x))) (upd H' x (excO x C))
theorem r_try {CT:Addr} {i:Nat} {tb:TX} {ts:Addr -> TS} (k:tb D (tryE K CT i ts D σ) σ H):tTry K CT i tb ts D σ H:=k
theorem r_tryE {C CT:Addr} {i:Nat} {ts:Addr -> TS} {o:Option Addr} (e:PySem.W.exmOne K (.ref C) (.ref CT) = some true)
    (k:∀ x,H x = none -> ts x ⟨fun σ' H2 => D.nx (σ'.set i none) H2,D.rt,fun σ' H2 => D.bk (σ'.set i none) H2,fun σ' H2 => D.ct (σ'.set i none) H2⟩ (σ.set i (some (.ref x))) (upd H x (excO x C))):tryE K CT i ts D σ (.ref C) o H:=⟨C,rfl,e,k⟩
theorem r_xdrop {te:TEX} (k:te σ H (fun _ H1 => D.nx σ H1) E):xDrop te D E σ H:=k
theorem r_xset {te:TEX} {i:Nat} (k:te σ H (fun v H1 => D.nx (σ.set i (some v)) H1) E):xSet te i D E σ H:=k
theorem r_xret {te:TEX} (k:te σ H D.rt E):xRet te D E σ H:=k
theorem r_callXD {sp:Sp} {dvs:List V} {t:TA} (k:t σ H fun vs H1 => sp (vs ++ dvs) H1 Q E):tCallX sp dvs t σ H Q E:=k
theorem r_callX {sp:Sp} {t:TA} (k:t σ H fun vs H1 => sp vs H1 Q E):tCallX sp [] t σ H Q E:=by
  have e:(fun (vs:List V) H1 => sp (vs ++ []) H1 Q E) = fun vs H1 => sp vs H1 Q E:=by
    funext vs H1
    rw [List.append_nil]
  show t σ H fun vs H1 => sp (vs ++ []) H1 Q E
  rw [e]; exact k
theorem r_rng1H {y:Addr} {ta:TA} {R:It -> Hp -> Prop} (k:ta σ H fun vs H1 => ∃ j:Int,vs = [.int j] /\ -(2 ^ 62) <= j /\ j < 2 ^ 62 /\ R (ItrH y 0 j.toNat) H1):iRng1H y ta σ H R:=k
end
end L2
namespace L2
open PySem PySem.Spec PyProof.Rows
section
variable {X:Cx}
noncomputable def rSplit:V -> List V -> Hp -> VK -> Prop:=fun x vs H Q => ∃ z y:Str,x = .str z /\ vs = [.str y] /\ (y.length == 0) = false /\ z.length <= 100000 /\ ∀ l,H l = none -> Q (.ref l) (upd H l (.lst ((Txt.split z y).map V.str)))
theorem texts_vals:∀ (l:List (Str×Tok)),Vals ((l.map (·.1)).map V.str) (strValues l)
  | [] => .nil
  | p :: r => .cons ⟨p.2,rfl⟩ (texts_vals r)
theorem mt_split:MtR X "str.split" rSplit:=by
  intro pins s σ H x vs v us Q I rx rv h
  obtain ⟨z,y,rfl,rfl,hy,hz,q⟩:=h
  obtain ⟨t,rfl⟩:=rx
  obtain ⟨u,rfl,ru⟩:=rv.one
  obtain ⟨t',rfl⟩:=ru
  have hn:(Builtin.Str.partsBetween z (Builtin.Str.occurrences z y 0 z.length (z.length + 1)) y.length).length <= z.length + 2:=by
    have:=StrLaws.occ_length_le z y 0 z.length (z.length + 1)
    rw [length_partsBetween]
    omega
  have fin:∀ (l:List (Str×Tok)) (k:Nat),l.map (·.1) = Txt.split z y -> l.length <= 200000 -> EP X pins σ Q (.ref s.heap.objs.size) { s with heap:=s.heap.push { cls:=.type "list",data:=.seq (strValues l).toArray },toks:=k }:=fun l k e hl => by
    refine ⟨.ref s.heap.objs.size,_,I.laid (t':=k) (a:=s.heap.objs.size) (o:=.lst ((Txt.split z y).map V.str)) (fun b o g => Heap.get?_push_of_some _ g) (Nat.le_refl _) ⟨?_,_,0,?_,Heap.get?_push_size _ rfl⟩,rfl,q _ (I.hok.fresh (Nat.le_refl _))⟩
    . rw [← e,List.length_map,List.length_map,sizeLine_eq]
      omega
    . rw [← e]
      exact texts_vals l
  have sz:z.length <= sizeLine:=by rw [sizeLine_eq]; omega
  cases h1:(decide (z.length < y.length) || decide (Builtin.Str.strKind z < Builtin.Str.strKind y))
  . cases hf:(Builtin.Str.occurrences z y 0 z.length (z.length + 1)).isEmpty
    . refine call_meets F.slot_str_split (typeIs_str _ _ _) F.entry_str_split (F.args_str_split_2 _ _) (meets_str_split_sep z y t t' h1 hy hf sz (by rw [sizeLine_eq]; omega)) ?_
      show wants _ _ _ { s with toks:=_,heap:=s.heap.push { cls:=.type "list",data:=.seq (strsFrom s.toks (Builtin.Str.partsBetween z (Builtin.Str.occurrences z y 0 z.length (z.length + 1)) y.length)).toArray } }
      rw [strsFrom_eq]
      have e:=numbered_texts s.toks (Builtin.Str.partsBetween z (Builtin.Str.occurrences z y 0 z.length (z.length + 1)) y.length)
      have e2:=congrArg List.length e
      rw [List.length_map] at e2
      exact fin _ _ (e.trans ((if_neg (ne_true_of_eq_false h1)).trans (if_neg (ne_true_of_eq_false hf))).symm) (by omega)
    . refine call_meets F.slot_str_split (typeIs_str _ _ _) F.entry_str_split (F.args_str_split_2 _ _) (meets_str_split_not_found z y t t' h1 hy hf) ?_
      exact fin [(z,t)] s.toks ((if_neg (ne_true_of_eq_false h1)).trans (if_pos hf)).symm (by simp)
  . refine call_meets F.slot_str_split (typeIs_str _ _ _) F.entry_str_split (F.args_str_split_2 _ _) (meets_str_split_cannot_occur z y t t' h1) ?_
    exact fin [(z,t)] s.toks (if_pos h1).symm (by simp)
end
end L2
namespace L2
open PySem PySem.Spec PyProof.Rows
noncomputable def Its (z:Str):It:=⟨fun i _ => i < z.cps.size,fun i H x H' => H' = H /\ ∃ c,z.cps[i]? = some c /\ x = .str ⟨#[c]⟩,fun i _ => z.cps.size <= i⟩
theorem turn_signs {P:Program} {w:World} {K:PySem.W.Frag} {tg:Expr} (it:Addr) (z:Str) (t:Tok) (n:String) (hn:n = "str_ascii_iterator" ∨ n = "str_iterator"):Turn P w K tg (Its z) [it] it (fun i h => h.IsStrIter it n z t i) where
  mem:=by simp
  obj:=fun i h st b hb => by
    obtain rfl:b = it:=by simpa using hb
    obtain ⟨o,e,c,d⟩:=st
    exact ⟨o,e,fun v y => by rw [d] at y; cases y⟩
  keep:=fun i h h' st k => let ⟨o,e,r⟩:=st; ⟨o,k it (by simp) o e,r⟩
  item:=by
    intro X hP hw hK hc i pins s σ H E I hf st hg
    subst hP hw hK
    obtain ⟨f0,f1,f2,f3,f4,f5⟩:=hf it (by simp)
    have hg:i < z.cps.size:=hg
    have ec:z.cps[i]? = some z.cps[i]:=by simp [hg]
    have fin:∀ h',h'.IsStrIter it n z t (i + 1) -> Heap.SameBut it s.heap h' -> ∃ u,some (Value.str ⟨#[z.cps[i]]⟩ s.toks) = some u /\
        wpAny (model X.prog X.w) X.A (letOwnedTupleGo tg (.ref it) u) (fun _ s2 => ∃ x H',Inv X pins σ H' s2 /\ RelV x u /\ (Its z).yld i H x H' /\ s2.heap.IsStrIter it n z t (i + 1) /\ ∀ b ∈ [it],H' b = none) E { s with heap:=h',toks:=s.toks + 1 }:=fun h' st' sb => by
      have I1:Inv X pins σ H { s with heap:=h',toks:=s.toks + 1 }:=I.turned (fun b o hb e => (sb.2 b hb).trans e) f0 f1 f3 f4 f5
      obtain ⟨o,e,c,d⟩:=id st'
      have hno:["enumerate","zip","dict_itemiterator","dict_reverseitemiterator","odict_iterator","itertools.zip_longest","itertools.pairwise"].contains n = false:=by
        rcases hn with rfl | rfl <;> decide
      exact ⟨_,rfl,go_of (s:={ s with heap:=h',toks:=s.toks + 1 }) e c d hno ⟨.str ⟨#[z.cps[i]]⟩,H,I1,⟨_,rfl⟩,⟨rfl,_,ec,rfl⟩,st',fun b hb => (hf b hb).1⟩⟩
    rcases hn with rfl | rfl
    . exact wpAny_pyNext_ascii_item st ec fin
    . exact wpAny_pyNext_wide_item st ec fin
  done:=by
    intro X hP hw hK hc i pins s σ H E I hf st hg
    subst hP hw hK
    obtain ⟨f0,f1,f2,f3,f4,f5⟩:=hf it (by simp)
    have hg:z.cps.size <= i:=hg
    have ec:z.cps[i]? = none:=by simp [hg]
    rcases hn with rfl | rfl
    . exact wpAny_pyNext_ascii_end (I.ok.hd hc) st ec fun h' eb => ⟨rfl,I.turned (t':=s.toks) (fun b o hb e => eb b o hb e) f0 f1 f3 f4 f5⟩
    . exact wpAny_pyNext_wide_end (I.ok.hd hc) st ec fun h' eb => ⟨rfl,I.turned (t':=s.toks) (fun b o hb e => eb b o hb e) f0 f1 f3 f4 f5⟩
  self:=fun _ _ _ _ _ st h => by
    rcases hn with rfl | rfl
    . exact wpAny_pyIter_striter_ascii st h
    . exact wpAny_pyIter_striter_wide st h
section
variable {X:Cx} {tg:Expr}
noncomputable def iSigns (tl:TE):TI:=fun σ H R => tl σ H fun x H1 => ∃ z,x = .str z /\ R (Its z) H1
theorem pi_signs {l:Expr} {tl:TE} (hl:PE X l tl):PI X tg l (iSigns tl):=by
  intro pins s σ H R I h
  refine thn (hl pins s σ H _ I h) fun v s1 ⟨x,H1,I1,r1,z,e,q⟩ => ?_
  subst e
  obtain ⟨t,rfl⟩:=r1
  refine wpAny_pyIter_strU ?_
  refine ⟨s1.heap.objs.size,[s1.heap.objs.size],_,_,H1,rfl,I1.kept (t':=s1.toks) fun b o e => Heap.get?_push_of_some _ e,turn_signs _ z t (strIterType z) ?_,⟨_,Heap.get?_push_size _ rfl,rfl,rfl⟩,fun b hb => ?_,q⟩
  . unfold strIterType
    split
    . exact .inl rfl
    . exact .inr rfl
  . obtain rfl:b = s1.heap.objs.size:=by simpa using hb
    exact I1.fpOk (Nat.le_refl _) (I1.hok.fresh (Nat.le_refl _))
noncomputable def rInTx:R2:=fun x y H Q => ∃ (c:Nat) (z:Str),x = .str ⟨#[c]⟩ /\ y = .str z /\ Q (.bl (decide (c ∈ z.cps.toList))) H
theorem op_inTx:OpR X (compareOp .In) rInTx:=by
  intro pins s σ H x y v u Q I rx ry h
  obtain ⟨c,z,rfl,rfl,q⟩:=h
  obtain ⟨t,rfl⟩:=rx
  obtain ⟨t',rfl⟩:=ry
  refine P.in_str ⟨.bl _,H,I,rfl,?_⟩
  rw [StrLaws.found_one]
  exact q
noncomputable def rAllB (K:PySem.W.Frag):List V -> Hp -> VK -> Prop:=fun vs H Q => ∃ (p:Addr) (bs:List Bool),vs = [.ref p] /\ SqL K H p (bs.map V.bl) /\ Q (.bl (bs.all id)) H
theorem all_range:∀ (bs:List Bool),(List.range bs.length).all (fun i => (bs[i]?).getD true) = bs.all id:=by
  intro bs
  rw [Bool.eq_iff_iff,List.all_eq_true,List.all_eq_true]
  constructor
  . intro h x hx
    obtain ⟨i,hi,e⟩:=List.getElem_of_mem hx
    have q:=h i (List.mem_range.mpr hi)
    rw [List.getElem?_eq_getElem hi,e] at q
    exact q
  . intro h i hi
    have hi:=List.mem_range.mp hi
    have q:=h bs[i] (List.getElem_mem hi)
    rw [List.getElem?_eq_getElem hi]
    exact q
theorem c_allB (hc:X.calm = true):CallR X (.builtin "all") (rAllB X.K):=by
  intro pins s σ H xs us Q I r h
  obtain ⟨p,bs,rfl,hp,q⟩:=h
  obtain ⟨u,rfl,rx⟩:=r.one
  cases rx
  obtain ⟨its,rl,ht,hz⟩:=I.list hp
  have hlt:p < s.heap.objs.size:=by
    obtain ⟨_,e,_⟩:=ht.isList
    exact Heap.lt_size e
  have hlen:=rl.length
  rw [List.length_map] at hlen
  refine call_all_walk (wpAny_pyIter_list ht.isList ?_)
  refine ⟨s.heap.objs.size,[s.heap.objs.size,p],[s.heap.objs.size],its.toArray.size,_,_,fun i => (bs[i]?).getD true,rfl,Walks.list (A:=X.A.in1) (I.ok.hd hc) _ p (Nat.ne_of_lt hlt) its.toArray,⟨⟨_,Heap.get?_push_size _ rfl,rfl,rfl⟩,ht.isList.at fun o e => Heap.get?_push_of_some _ e⟩,?_,fun h' tk hk => ?_⟩
  . intro i v s' Q' E' hv hq
    have hv:its[i]? = some v:=by simpa using hv
    have hi:i < bs.length:=by
      have:=(List.getElem?_eq_some_iff.mp hv).1
      omega
    obtain ⟨u,e1,r1⟩:=rl.get (i:=i) (x:=.bl bs[i]) (by simp [hi])
    rw [hv] at e1
    cases e1
    obtain rfl:v = Value.bool bs[i]:=r1
    refine wpAny_truthy_bool ?_
    have hq:Q' ((bs[i]?).getD true) s':=hq
    rw [List.getElem?_eq_getElem hi] at hq
    exact hq
  . refine ⟨.bl _,H,I.kept (t':=tk) fun b o e => hk b o (fun z => ?_) (Heap.get?_push_of_some _ e),?_,q⟩
    . exact absurd (Heap.lt_size e) (by rw [List.mem_singleton.mp z]; exact Nat.lt_irrefl _)
    . show Value.bool _ = Value.bool _
      rw [List.size_toArray,← hlen,all_range]
end
section
variable {te:TE} {Q:VK} {H:Hp} {σ caps:St} {wi:TI} {tc:TT} {K:PySem.W.Frag}
theorem r_iSigns {tl:TE} {R:It -> Hp -> Prop} (k:tl σ H fun x H1 => ∃ z,x = .str z /\ R (Its z) H1):iSigns tl σ H R:=k
theorem r_compS {z:Str} (hn:z.length <= 1000) (Pv:Addr -> Nat -> List V -> Hp -> Prop) (h0:∀ acc,H acc = none -> Pv acc 0 [] (upd H acc (.lst [])))
    (hs:∀ acc i ys H1 c,H acc = none -> z.cps[i]? = some c -> ys.length = i -> H1 acc = some (.lst ys) -> Pv acc i ys H1 -> te (some (.str ⟨#[c]⟩) :: caps) H1 (cNext z.length acc (Pv acc) ys i))
    (hd:∀ acc ys H1,H acc = none -> H1 acc = some (.lst ys) -> ys.length = z.length -> Pv acc z.length ys H1 -> Q (.ref acc) H1):compK te none (gName 0) (List.replicate 1 none) caps Q (Its z) H:=by
  intro acc hacc
  refine ⟨cW z.length acc (Pv acc),⟨z.length,by simp,Nat.zero_le _,rfl,upd_same,h0 acc hacc⟩,?_⟩
  rintro i m ys H1 ⟨rfl,hi,hl,ha,p⟩
  refine ⟨ha,?_⟩
  by_cases hlt:i < z.length
  . refine .inr ⟨small1000 (by omega),hlt,fun us x H' hu y => ?_⟩
    obtain ⟨e,c,ec,y⟩:=y
    subst e y
    obtain ⟨o,rfl⟩:=len1 hu
    exact ⟨⟨[some (.str ⟨#[c]⟩)],rfl,rfl⟩,hs acc i ys _ c hacc ec hl ha p⟩
  . have e:i = z.length:=by omega
    subst e
    exact .inl ⟨Nat.le_refl _,hd acc ys H1 hacc ha hl p⟩
theorem r_inTx {c:Nat} {z:Str} (k:Q (.bl (decide (c ∈ z.cps.toList))) H):rInTx (.str ⟨#[c]⟩) (.str z) H Q:=⟨c,z,rfl,rfl,k⟩
theorem r_allB {p:Addr} {bs:List Bool} (h:H p = some (.lst (bs.map V.bl))) (k:Q (.bl (bs.all id)) H):rAllB K [.ref p] H Q:=⟨p,bs,rfl,SqL.of h,k⟩
theorem r_split {z y:Str} (hy:(y.length == 0) = false) (hz:z.length <= 100000) (k:∀ l,H l = none -> Q (.ref l) (upd H l (.lst ((Txt.split z y).map V.str)))):rSplit (.str z) [.str y] H Q:=⟨z,y,rfl,rfl,hy,hz,k⟩
end
section
variable {r r':R2} {ta tb tc:TE} {x y:V} {σ:St} {H:Hp} {Q:VK} {c:Bool}
noncomputable def chnD (r':R2) (y:V) (Q:VK):VK:=fun w' H4 => r' y w' H4 Q
noncomputable def chnC (r':R2) (tc:TE) (y:V) (σ:St) (Q:VK):VK:=fun z H3 => ∃ k,z = .bl k /\ (if k = true then tc σ H3 (chnD r' y Q) else Q (.bl false) H3)
noncomputable def chnB (r r':R2) (tc:TE) (x:V) (σ:St) (Q:VK):VK:=fun y H2 => r x y H2 (chnC r' tc y σ Q)
noncomputable def chnA (r r':R2) (tb tc:TE) (σ:St) (Q:VK):VK:=fun x H1 => tb σ H1 (chnB r r' tc x σ Q)
theorem r_chain (k:ta σ H (chnA r r' tb tc σ Q)):tChain r r' ta tb tc σ H Q:=k
theorem r_chnA (k:tb σ H (chnB r r' tc x σ Q)):chnA r r' tb tc σ Q x H:=k
theorem r_chnB (k:r x y H (chnC r' tc y σ Q)):chnB r r' tc x σ Q y H:=k
theorem r_chnC (k:if c = true then tc σ H (chnD r' y Q) else Q (.bl false) H):chnC r' tc y σ Q (.bl c) H:=⟨c,rfl,k⟩
theorem r_chnD (k:r' x y H Q):chnD r' x Q y H:=k
end
section
variable {K:PySem.W.Frag} {H H':Hp}
noncomputable def NS (K:PySem.W.Frag) (H:Hp) (x:V):Prop:=∃ t,TyOf K H x t /\ PySem.W.kitOne K t (.type "str") = some false
theorem NS.int (i:Int):NS K H (.int i):=⟨_,.int i,kit_int_str⟩
theorem NS.non:NS K H .non:=⟨_,.non,kit_NoneType_str⟩
theorem NS.lst {p:Addr} {xs:List V} (h:H p = some (.lst xs)):NS K H (.ref p):=⟨_,.lst h,kit_list_str⟩
end
noncomputable def pst:List Nat -> Nat -> Nat -> Bool
  | [],k,n => decide (k <= 4) && (decide (1 <= n) && decide (n <= 8))
  | c :: r,k,n => if c = 46 then (decide (1 <= n) && decide (n <= 8)) && pst r (k + 1) 0 else (decide (97 <= c) && decide (c < 123)) && pst r k (n + 1)
noncomputable def postB (z:Str):Bool:=pst z.cps.toList 1 0
noncomputable def partB (z:Str):Bool:=(decide (1 <= z.length) && decide (z.length <= 8)) && z.cps.toList.all fun c => decide (97 <= c) && decide (c < 123)
theorem pst_part:∀ (l:List Nat) (r:List Nat) (k n:Nat),46 ∉ l -> pst (l ++ r) k n = ((l.all fun c => decide (97 <= c) && decide (c < 123)) && pst r k (n + l.length))
  | [],r,k,n,_ => by simp
  | c :: l,r,k,n,h => by
    have h1:c ≠ 46:=fun e => h (by simp [e])
    have h2:46 ∉ l:=fun e => h (by simp [e])
    show (if c = 46 then _ else _) = _
    rw [if_neg h1]
    show ((decide (97 <= c) && decide (c < 123)) && pst (l ++ r) k (n + 1)) = _
    rw [pst_part l r k (n + 1) h2,List.all_cons,List.length_cons,show n + 1 + l.length = n + (l.length + 1) by omega]
    simp only [Bool.and_assoc]
theorem join_cps1 (x:Str):(Str.join ⟨#[46]⟩ [x]).cps.toList = x.cps.toList:=rfl
theorem join_cps2 (x y:Str) (r:List Str):(Str.join ⟨#[46]⟩ (x :: y :: r)).cps.toList = x.cps.toList ++ 46 :: (Str.join ⟨#[46]⟩ (y :: r)).cps.toList:=by
  show (((x.cps ++ #[46]) ++ (Str.join ⟨#[46]⟩ (y :: r)).cps):Array Nat).toList = _
  simp
theorem len_cps (z:Str):z.length = z.cps.toList.length:=by unfold Str.length; simp
theorem pst_join:∀ (ps:List Str) (x:Str) (k:Nat),(∀ p ∈ x :: ps,46 ∉ p.cps.toList) -> pst (Str.join ⟨#[46]⟩ (x :: ps)).cps.toList k 0 = (decide (k + ps.length <= 4) && (x :: ps).all partB)
  | [],x,k,h => by
    rw [join_cps1]
    have q:=pst_part x.cps.toList [] k 0 (h x (by simp))
    rw [List.append_nil] at q
    rw [q,Nat.zero_add,← len_cps]
    show (_ && (decide (k <= 4) && _)) = _
    simp only [List.all_cons,List.all_nil,Bool.and_true,partB,List.length_nil,Nat.add_zero]
    cases decide (k <= 4) <;> cases (decide (1 <= x.length) && decide (x.length <= 8)) <;> cases (x.cps.toList.all fun c => decide (97 <= c) && decide (c < 123)) <;> rfl
  | y :: r,x,k,h => by
    have ih:=pst_join r y (k + 1) fun p hp => h p (List.mem_cons_of_mem _ hp)
    rw [join_cps2,pst_part _ _ k 0 (h x (by simp))]
    show (_ && (if 46 = 46 then _ else _)) = _
    rw [if_pos rfl,ih,Nat.zero_add,← len_cps,List.all_cons (a:=x),List.length_cons]
    show (_ && (_ && (decide (k + 1 + r.length <= 4) && _))) = (decide (k + (r.length + 1) <= 4) && (((_ && _) && _) && _))
    rw [show k + 1 + r.length = k + (r.length + 1) by omega]
    cases decide (k + (r.length + 1) <= 4) <;> cases decide (1 <= x.length) <;> cases decide (x.length <= 8) <;> cases (x.cps.toList.all fun c => decide (97 <= c) && decide (c < 123)) <;> cases (y :: r).all partB <;> rfl
theorem post_split (z:Str):postB z = (decide ((Txt.split z ⟨#[46]⟩).length <= 4) && (Txt.split z ⟨#[46]⟩).all partB):=by
  have h1:=StrLaws.join_split z ⟨#[46]⟩
  have h2:=StrLaws.split_free z 46
  have h3:=split_pos z ⟨#[46]⟩
  unfold postB
  generalize hs:Txt.split z ⟨#[46]⟩ = ps at h1 h2 h3 ⊢
  cases ps with
  | nil => simp at h3
  | cons x r =>
    rw [← h1,pst_join r x 1 h2,List.length_cons,show 1 + r.length = r.length + 1 by omega]
theorem sp_short {x y a:Str} (h:a ∈ Txt.split x y):a.length <= x.length:=part_short h
theorem sp_few (x y:Str):(Txt.split x y).length <= x.length + 2:=split_le x y
noncomputable def PostQ (K:PySem.W.Frag) (H:Hp) (x:V) (b:Bool):Prop:=(∃ z:Str,x = .str z /\ z.length <= 1000 /\ b = postB z) ∨ (NS K H x /\ b = false)
theorem TyOf.sm {K:PySem.W.Frag} {H H':Hp} {x:V} {t:Value} (ty:TyOf K H x t) (s:Same H H'):TyOf K H' x t:=by
  cases ty with
  | non => exact .non
  | bl x => exact .bl x
  | int i => exact .int i
  | str x => exact .str x
  | flt x => exact .flt x
  | lst e => exact .lst (s _ _ e)
  | frz e => exact .frz (s _ _ e)
  | tup e => exact .tup (s _ _ e)
  | dK e => exact .dK (s _ _ e)
  | dT e => exact .dT (s _ _ e)
  | ins e cl ha hn htk hm => exact .ins (s _ _ e) cl ha hn htk hm
theorem NS.sm {K:PySem.W.Frag} {H H':Hp} {x:V} (h:NS K H x) (s:Same H H'):NS K H' x:=let ⟨t,ty,e⟩:=h; ⟨t,TyOf.sm ty s,e⟩
theorem PostQ.sm {K:PySem.W.Frag} {H H':Hp} {x:V} {b:Bool} (h:PostQ K H x b) (s:Same H H'):PostQ K H' x b:=h.imp id fun z => ⟨z.1.sm s,z.2⟩
inductive IsRunQ (K:PySem.W.Frag) (H:Hp):V -> Bool -> Prop
  | nt {x:V} (h:NT K H x):IsRunQ K H x false
  | len {p:Addr} {xs:List V} (h:H p = some (.tup xs)) (n:xs.length ≠ 3):IsRunQ K H (.ref p) false
  | one {p:Addr} {u v t:V} (h:H p = some (.tup [u,v,t])) (hu:PostQ K H u false):IsRunQ K H (.ref p) false
  | two {p:Addr} {u v t:V} (h:H p = some (.tup [u,v,t])) (hu:PostQ K H u true) (hv:PostQ K H v false):IsRunQ K H (.ref p) false
  | same {p:Addr} {s:Str} {t:V} (h:H p = some (.tup [.str s,.str s,t])) (hu:PostQ K H (.str s) true):IsRunQ K H (.ref p) false
  | time {p:Addr} {s s':Str} {t:V} (h:H p = some (.tup [.str s,.str s',t])) (hu:PostQ K H (.str s) true) (hv:PostQ K H (.str s') true) (hn:s ≠ s') (ht:∀ H',Same H H' -> Frq K H' t false):IsRunQ K H (.ref p) false
  | run {p tp:Addr} {s s':Str} {a c:Int} (h:H p = some (.tup [.str s,.str s',.ref tp])) (hu:PostQ K H (.str s) true) (hv:PostQ K H (.str s') true) (hn:s ≠ s') (ht:H tp = some (.tup [.int a,.int c])) (hf:frV (.int a) (.int c) = true) (sa:Sm 8000 a) (sc:Sm 8000 c):IsRunQ K H (.ref p) (decide (0 < a))
theorem cps_app (a b:Str):(a ++ b).cps.toList = a.cps.toList ++ b.cps.toList:=by
  show (a.cps ++ b.cps).toList = _
  simp
theorem len_plus (a b:Str):(a ++ b).length = a.length + b.length:=by
  rw [len_cps,len_cps,len_cps,cps_app,List.length_append]
theorem part_facts {z:Str} (h:partB z = true):1 <= z.length /\ z.length <= 8 /\ 46 ∉ z.cps.toList:=by
  unfold partB at h
  rw [Bool.and_eq_true,Bool.and_eq_true,decide_eq_true_iff,decide_eq_true_iff,List.all_eq_true] at h
  refine ⟨h.1.1,h.1.2,fun m => ?_⟩
  exact absurd (h.2 _ m) (by decide)
theorem sum_le:∀ {cs:List Str},(∀ c ∈ cs,c.length <= 8) -> (cs.map (·.length)).sum <= 8 * cs.length
  | [],_ => Nat.le_refl _
  | c :: r,h => by
    have h1:=h c (by simp)
    have h2:=sum_le (cs:=r) fun d hd => h d (List.mem_cons_of_mem _ hd)
    rw [List.map_cons,List.sum_cons,List.length_cons]
    omega
theorem letters_mem (c:Nat):decide (c ∈ ("abcdefghijklmnopqrstuvwxyz":Str).cps.toList) = (decide (97 <= c) && decide (c < 123)):=by
  have e:("abcdefghijklmnopqrstuvwxyz":Str).cps.toList = List.range' 97 26:=by decide +kernel
  rw [e,Bool.eq_iff_iff,Bool.and_eq_true,decide_eq_true_iff,decide_eq_true_iff,decide_eq_true_iff]
  exact List.mem_range'_1
end L2
namespace L2
open PySem PySem.Spec PyProof.Rows
section
variable {σ:St} {H:Hp} {Q:VK} {K:PySem.W.Frag}
end
noncomputable def Lts (s:Str):Prop:=∀ c ∈ s.cps.toList,97 <= c /\ c < 123
theorem app_cps (a b:Str):(a ++ b).cps.toList = a.cps.toList ++ b.cps.toList:=by
  show (a.cps ++ b.cps).toList = _
  simp
theorem Lts.app {a b:Str} (h1:Lts a) (h2:Lts b):Lts (a ++ b):=by
  intro c hc
  rw [app_cps] at hc
  rcases List.mem_append.mp hc with h | h
  . exact h1 c h
  . exact h2 c h
theorem Lts.one {c:Nat} (h:97 <= c /\ c < 123):Lts ⟨#[c]⟩:=by
  intro d hd
  have:d = c:=by simpa using hd
  rw [this]
  exact h
theorem Lts.sub {a b:Str} (h:Lts a) (s:∀ c ∈ b.cps.toList,c ∈ a.cps.toList):Lts b:=fun c hc => h c (s c hc)
theorem Lts.of {cs:List Nat} (h:∀ c ∈ cs,97 <= c /\ c < 123):Lts ⟨cs.toArray⟩:=fun c hc => h c (by simpa using hc)
theorem lst_one (k:Key) (q:Rat):lst [(k,q)] = [(k,q)]:=rfl
noncomputable abbrev sC:Str:=Str.ofString "c"
noncomputable def n2:List TRun:=[(sA,sB,Rat.divInt 1 2),(sB,sC,Rat.divInt 1 3)]
end L2
namespace L2
open PySem PySem.Spec PyProof.Rows
inductive Rch (net:List (RunD Key)) (B:Nat -> Key -> Prop) (ps:List Key):Key -> Prop where
  | push {p:Key} (h:p ∈ ps):Rch net B ps p
  | step {p x:Key} {k:Nat} {r:RunD Key} (h:Rch net B ps p) (hr:net[k]? = some r) (j:Jn r p x) (nb:¬ B k p):Rch net B ps x
theorem Rch.sub {net:List (RunD Key)} {B:Nat -> Key -> Prop} {ps:List Key} {S:Key -> Prop} (h0:∀ p ∈ ps,S p) (hc:∀ p k r x,S p -> net[k]? = some r -> Jn r p x -> ¬ B k p -> S x) {p:Key} (h:Rch net B ps p):S p:=by
  induction h with
  | push h => exact h0 _ h
  | step _ hr j nb ih => exact hc _ _ _ _ ih hr j nb
theorem Rch.imp {net:List (RunD Key)} {B C:Nat -> Key -> Prop} {ps:List Key} (h0:∀ k p r x,net[k]? = some r -> Jn r p x -> C k p -> B k p) {p:Key} (h:Rch net B ps p):Rch net C ps p:=by
  induction h with
  | push h => exact .push h
  | step _ hr j nb ih => exact .step ih hr j fun z => nb (h0 _ _ _ _ hr j z)
section
variable {H:Hp} {Q:VK} {K:PySem.W.Frag} {σ:St} {D:Ends} {v:V}
theorem r_aug {i:Nat} {te:TE} {ti:TIp} {x:V} (h:σ[i]? = some (some x)) (k:te σ H fun y H1 => ti x y H1 fun z H2 => D.nx (σ.set i (some z)) H2):tAug i te ti D σ H:=⟨x,h,k⟩
end
noncomputable def Cld (n:List TRun) (B:Nat -> Key -> Prop) (qs:List Str) (s:Str):Prop:=∀ k r x,(kn n)[k]? = some r -> Jn r (Sum.inr s) x -> ¬ B k (Sum.inr s) -> ∃ t ∈ qs,x = Sum.inr t
theorem Cld.mono {n:List TRun} {B:Nat -> Key -> Prop} {qs qs':List Str} {s:Str} (h:Cld n B qs s) (hs:∀ x ∈ qs,x ∈ qs'):Cld n B qs' s:=fun k r x a b c => let ⟨t,ht,e⟩:=h k r x a b c; ⟨t,hs t ht,e⟩
structure Sch (n:List TRun) (B:Nat -> Key -> Prop) (ps qs:List Str):Prop where
  rch:∀ s ∈ qs,Rch (kn n) B (ps.map Sum.inr) (Sum.inr s)
  ap:∃ ap:List Str,qs = ps ++ ap /\ ap.Nodup /\ ∀ x ∈ ap,x ∈ names n /\ x ∉ ps
theorem Sch.start (n:List TRun) (B:Nat -> Key -> Prop) (ps:List Str):Sch n B ps ps:=⟨fun s hs => .push (List.mem_map_of_mem hs),[],by simp,List.nodup_nil,fun x hx => by simp at hx⟩
theorem Sch.add {n:List TRun} {B:Nat -> Key -> Prop} {ps qs:List Str} {s x:Str} {k:Nat} {r:RunD Key} (h:Sch n B ps qs) (hs:s ∈ qs) (hr:(kn n)[k]? = some r) (j:Jn r (Sum.inr s) (Sum.inr x)) (nb:¬ B k (Sum.inr s)) (hx:x ∉ qs):Sch n B ps (qs ++ [x]):=by
  obtain ⟨ap,rfl,nd,hm⟩:=h.ap
  have hxn:x ∈ names n:=by
    obtain ⟨r',e1,rfl⟩:=kn_at hr
    have hm':=List.mem_of_getElem? e1
    unfold names
    rcases j with ⟨_,e⟩ | ⟨_,e⟩
    . cases e; exact List.mem_append_right _ (List.mem_map_of_mem hm')
    . cases e; exact List.mem_append_left _ (List.mem_map_of_mem hm')
  refine ⟨fun y hy => ?_,ap ++ [x],by rw [List.append_assoc],?_,fun y hy => ?_⟩
  . rcases List.mem_append.mp hy with hy | hy
    . exact h.rch y hy
    . rw [List.mem_singleton.mp hy]
      exact .step (h.rch s hs) hr j nb
  . rw [List.nodup_append]
    refine ⟨nd,by simp,fun a ha b hb => ?_⟩
    rw [List.mem_singleton.mp hb]
    rintro rfl
    exact hx (List.mem_append_right _ ha)
  . rcases List.mem_append.mp hy with hy | hy
    . exact hm y hy
    . rw [List.mem_singleton.mp hy]
      exact ⟨hxn,fun z => hx (List.mem_append_left _ z)⟩
theorem Sch.len {n:List TRun} {B:Nat -> Key -> Prop} {ps qs:List Str} (h:Sch n B ps qs):qs.length <= ps.length + 2 * n.length:=by
  obtain ⟨ap,rfl,nd,hm⟩:=h.ap
  have:=nd_len nd (fun x hx => (hm x hx).1)
  have e:(names n).length = 2 * n.length:=by unfold names; rw [List.length_append,List.length_map,List.length_map]; omega
  rw [List.length_append]
  omega
theorem Sch.done {n:List TRun} {B:Nat -> Key -> Prop} {ps qs:List Str} (h:Sch n B ps qs) (c:∀ s ∈ qs,Cld n B qs s) (s:Str):s ∈ qs ↔ Rch (kn n) B (ps.map Sum.inr) (Sum.inr s):=by
  refine ⟨h.rch s,fun hr => ?_⟩
  have key:∀ p,Rch (kn n) B (ps.map Sum.inr) p -> ∃ t ∈ qs,p = Sum.inr t:=fun p hp => by
    refine Rch.sub (S:=fun p => ∃ t ∈ qs,p = Sum.inr t) (fun p hp => ?_) (fun p k r x ⟨t,ht,e⟩ hr j nb => ?_) hp
    . obtain ⟨t,ht,rfl⟩:=List.mem_map.mp hp
      obtain ⟨ap,rfl,_⟩:=h.ap
      exact ⟨t,List.mem_append_left _ ht,rfl⟩
    . subst e
      exact c t ht k r x hr j nb
  obtain ⟨t,ht,e⟩:=key _ hr
  cases e
  exact ht
noncomputable def KeysAre (kvs:List (Key×V)) (qs:List Str):Prop:=(∀ s:Str,(valV kvs (Sum.inr s)).isSome = decide (s ∈ qs)) /\ kvs.length <= qs.length
theorem KeysAre.add {kvs:List (Key×V)} {qs:List Str} {x:Str} {v:V} (h:KeysAre kvs qs):KeysAre (putK kvs (Sum.inr x) v) (qs ++ [x]):=by
  refine ⟨fun s => ?_,?_⟩
  . rw [valV_put]
    by_cases e:s = x
    . subst e
      rw [if_pos rfl,decide_eq_true (List.mem_append_right _ (by simp))]
      rfl
    . rw [if_neg (fun z => e (Sum.inr.inj z)),h.1 s]
      by_cases hs:s ∈ qs
      . rw [decide_eq_true hs,decide_eq_true (List.mem_append_left _ hs)]
      . rw [decide_eq_false hs,decide_eq_false (fun z => (List.mem_append.mp z).elim hs fun y => e (List.mem_singleton.mp y))]
  . have:=length_putK kvs (Sum.inr x) v
    have:=h.2
    rw [List.length_append]
    simp
    omega
theorem KeysAre.nil:KeysAre [] []:=⟨fun s => by rw [valV_nil]; simp,Nat.le_refl _⟩
theorem pickS' {nm:List Str} {i:Int} (h0:0 <= i) (h1:i < nm.length):∃ s,s ∈ nm /\ atI (nm.map V.str) i = some (.str s):=by
  obtain ⟨z,hz,e⟩:=pickV (xs:=nm.map V.str) h0 (by rw [List.length_map]; exact h1)
  obtain ⟨s,hs,rfl⟩:=List.mem_map.mp hz
  exact ⟨s,hs,e⟩
end L2
namespace L2
open PySem PySem.Spec PyProof.Rows
noncomputable def gK {α:Type} (n:Nat) (us ws:List α):List α:=if us.length = n /\ ws.length = 1 then us ++ ws else []
structure DfK (K:PySem.W.Frag) (mg:Str -> Option Value) (x:Str) (st:Stmt) (ps:List Str) (dvs:List V) (n:Nat) (ks:List Str):Prop where
  ex:∃ (f:Addr) (fd:FuncData),(∃ (oc:Value) (od:Option Addr) (dV kV doc pm:Value) (an:Option Addr) (cdv ct:Value) (osl:Array (Option Value)),
    fd = PySem.W.fnOf x x (defArgs st) (defBody st) (defScope st) dV kV doc pm an cdv ct /\ K.lookup f = some ⟨oc,od,.func fd,osl⟩ /\ PySem.W.codeIn K cdv x = true) /\ PySem.W.keepIn K (.ref f) = true /\ mg x = some (.ref f) /\ Binds K fd ps [] /\ (∃ ds,Vals dvs ds /\ Binds K fd ps ds) /\ KBinds K fd ps ks (gK n) (gK n)
structure OkfK (P:Program) (w:World) (K:PySem.W.Frag) (mg:Str -> Option Value) (base:Heap) (k:Nat) (x:Str) (ps:List Str) (dvs:List V) (n:Nat) (ks:List Str) (sp:Sp):Prop where
  ex:∃ (f:Addr) (fd:FuncData),mg x = some (.ref f) /\ PySem.W.keepIn K (.ref f) = true /\ Binds K fd ps [] /\ (∃ ds,Vals dvs ds /\ Binds K fd ps ds) /\ KBinds K fd ps ks (gK n) (gK n) /\ FnOk P w K mg base CX0 k f fd ps sp
theorem OkfK.mono {P:Program} {w:World} {K:PySem.W.Frag} {mg:Str -> Option Value} {base:Heap} {j k:Nat} {x:Str} {ps:List Str} {dvs:List V} {n:Nat} {ks:List Str} {sp:Sp} (o:OkfK P w K mg base j x ps dvs n ks sp) (h:j <= k):OkfK P w K mg base k x ps dvs n ks sp :=
  let ⟨f,fd,a,b,c,e,z,d⟩:=o.ex; ⟨f,fd,a,b,c,e,z,d.mono h⟩
theorem OkfK.d {P:Program} {w:World} {K:PySem.W.Frag} {mg:Str -> Option Value} {base:Heap} {k:Nat} {x:Str} {ps:List Str} {dvs:List V} {n:Nat} {ks:List Str} {sp:Sp} (o:OkfK P w K mg base k x ps dvs n ks sp):OkfD P w K mg base k x ps dvs sp :=
  let ⟨f,fd,a,b,c,e,_,d⟩:=o.ex; ⟨f,fd,a,b,c,e,d⟩
theorem OkfK.of {P:Program} {w:World} {K:PySem.W.Frag} {mg:Str -> Option Value} {base:Heap} {k:Nat} {x:Str} {st:Stmt} {N ps:List Str} {dvs:List V} {n:Nat} {ks:List Str} {sp:Sp} (d:DfK K mg x st ps dvs n ks) (S:FnScope N ps (defScope st)) (len:∀ vs H Q E,sp vs H Q E -> vs.length = ps.length)
    (hbody:∀ (f:Addr) (cdv:Value) (A:Around) (outer:List Env) (s:Shared) (H:Hp) (vs:List V) (Q:VK) (E:XK),Room k (A.deeper (envOfC x (defScope st) s.heap.objs.size f cdv)) -> sp vs H Q E ->
      ∃ t,PSs (cxOf CX0 P w K mg base N x (defScope st) f cdv A outer s H E).nox (defBody st) t /\ t { nx:=fun _ H' => Q .non H',rt:=Q } (start N vs) H):OkfK P w K mg base (k + 1) x ps dvs n ks sp:=by
  obtain ⟨f,fd,⟨oc,od,dV,kV,doc,pm,an,cdv,ct,osl,rfl,lk,hcd⟩,kp,a,b,b2,b3⟩:=d.ex
  refine ⟨f,_,a,kp,b,b2,b3,fn_of lk hcd S len fun A outer s H vs Q E hr hsp => ?_⟩
  obtain ⟨t,h,q⟩:=hbody f cdv A outer s H vs Q E hr hsp
  exact ⟨t,h.nox,q⟩
section
variable {X:Cx} {k n:Nat} {x:Str} {ps ks:List Str} {dvs:List V} {sp:Sp} {p pos:Pos} {e:Expr} {es:List Expr} {kws:List Keyword} {t tk:TA}
theorem r_callK {σ:St} {H:Hp} {Q:VK} {E:XK} {gV:List V -> List V -> List V} {ta tb:TA} (k:ta σ H fun vs H1 => tb σ H1 fun zs H2 => sp (gV vs zs) H2 Q E):tCallK sp gV E ta tb σ H Q:=k
end
theorem LQ.kp {β:Type} {R:Hp -> V -> β -> Prop} {H H':Hp} {l p:Addr} {ds:List β} {n:Int} (h:LQ R H l ds) (hR:∀ {H H' v b},R H v b -> TK H H' -> R H' v b) (st:St3 H p n) (k:Kp p H H') (hne:l ≠ p):LQ R H' l ds :=
  let ⟨vs,a,b⟩:=h; ⟨vs,k _ _ hne a,Pd.imp b fun v b f => hR f (st.tk k)⟩
section
variable {σ:St} {H:Hp} {Q:VK} {K:PySem.W.Frag}
end
theorem sz_of {q:Rat} {m n:Nat} (h1:q.num.natAbs < 2 ^ m) (h2:q.den < 2 ^ m) (h:m <= n):Sz n q:=Sz.mono (m:=m) ⟨h1,h2⟩ h
theorem TOk.sz {q:Rat} (h:TOk q):Sz 3900 q:=sz_of (m:=64) (Nat.lt_of_le_of_lt h.n (by decide)) (Nat.lt_of_le_of_lt h.d (by decide)) (by decide)
noncomputable def n3:List TRun:=[(sA,sB,Rat.divInt 1 2),(sB,sC,Rat.divInt 1 1)]
noncomputable def ts3:List (Key×Rat):=[(Sum.inl 0,Rat.divInt 1 2),(Sum.inl 1,Rat.divInt 1 1)]
noncomputable def tk3:Nat -> Option Rat:=fun k => aget (lst ts3) (Sum.inl (k:Int))
end L2
namespace L2
open PySem PySem.Spec PyProof.Rows
section
variable {X:Cx}
end
section
variable {H:Hp} {Q:VK} {u v:V} {a b:Option Rat}
end
inductive Pth (net:List (RunD Key)) (a:Key):Key -> Rat -> Prop
  | nil:Pth net a a 0
  | snoc {q p:Key} {s:Rat} {k:Nat} {r:RunD Key}:Pth net a q s -> net[k]? = some r -> Jn r q p -> Pth net a p (s + r.2.2)
theorem Pth.trans {net:List (RunD Key)} {a b c:Key} {s t:Rat} (h:Pth net a b s) (g:Pth net b c t):Pth net a c (s + t):=by
  induction g with
  | nil => rw [Rat.add_zero]; exact h
  | snoc g h1 h2 ih =>
    rw [← Rat.add_assoc]
    exact .snoc ih h1 h2
theorem Pth.one {net:List (RunD Key)} {k:Nat} {r:RunD Key} {q p:Key} (h1:net[k]? = some r) (h2:Jn r q p):Pth net q p r.2.2:=by
  have:=Pth.snoc (.nil (a:=q)) h1 h2
  rwa [Rat.zero_add] at this
theorem Pth.symm {net:List (RunD Key)} {a b:Key} {s:Rat} (h:Pth net a b s):Pth net b a s:=by
  induction h with
  | nil => exact .nil
  | snoc h h1 h2 ih =>
    rw [Rat.add_comm]
    exact (Pth.one h1 h2.symm).trans ih
theorem Pth.nn {net:List (RunD Key)} {a b:Key} {s:Rat} (hp:∀ r ∈ net,0 < r.2.2) (h:Pth net a b s):0 <= s:=by
  induction h with
  | nil => exact Rat.le_refl
  | snoc h h1 h2 ih => exact Rat.add_nonneg ih (Rat.le_of_lt (hp _ (List.mem_of_getElem? h1)))
section
variable {net:List (RunD Key)} {a b:Key} {m:Rat} {tk:Nat -> Option Rat} {f:Key -> Option Rat}
theorem arr_pth {p:Key} {t:Rat} (h:Arr net (aget (lst [(a,m)])) tk p t):∃ s,Pth net a p s /\ t = m + s:=by
  induction h with
  | push e =>
    have:=lst_mem (aget_mem e)
    cases List.mem_singleton.mp this
    exact ⟨0,.nil,by rw [Rat.add_zero]⟩
  | run _ h1 h2 _ ih =>
    obtain ⟨s,g,rfl⟩:=ih
    exact ⟨_,.snoc g h1 h2,by rw [Rat.add_assoc]⟩
theorem pth_arr (h0:∀ k,tk k = none) {p:Key} {s:Rat} (h:Pth net a p s):Arr net (aget (lst [(a,m)])) tk p (m + s):=by
  induction h with
  | nil =>
    rw [Rat.add_zero]
    exact .push (by rw [lst_one]; simp [aget])
  | snoc _ h1 h2 ih =>
    rw [← Rat.add_assoc]
    exact .run ih h1 h2 fun u e => by rw [h0] at e; cases e
structure Dst (net:List (RunD Key)) (a:Key) (m:Rat) (f:Key -> Option Rat):Prop where
  is:∀ p t,f p = some t -> ∃ s,Pth net a p s /\ t = m + s
  le:∀ p s,Pth net a p s -> ∃ u,f p = some u /\ u <= m + s
theorem Falls.dst (h0:∀ k,tk k = none) (h:Falls net (aget (lst [(a,m)])) tk f):Dst net a m f:=⟨fun p t e => arr_pth (h.arr p t e),fun p s g => h.le p _ (pth_arr h0 g)⟩
theorem Dst.uniq {f g:Key -> Option Rat} {k:Rat} (h:Dst net a m f) (h':Dst net a k g) (p:Key):(f p).map (· - m) = (g p).map (· - k):=by
  have key:∀ {f g:Key -> Option Rat} {m k:Rat},Dst net a m f -> Dst net a k g -> ∀ t,f p = some t -> ∃ u,g p = some u /\ u - k <= t - m:=fun {f g m k} h h' t e => by
    obtain ⟨s,g1,rfl⟩:=h.is p t e
    obtain ⟨u,e2,l⟩:=h'.le p s g1
    refine ⟨u,e2,?_⟩
    have e3:m + s - m = s:=by rw [Rat.add_comm,Rat.add_sub_cancel]
    have e4:k + s - k = s:=by rw [Rat.add_comm,Rat.add_sub_cancel]
    rw [e3]
    have:=Rat.add_le_add_right (c:=-k) |>.mpr l
    rw [← Rat.sub_eq_add_neg,← Rat.sub_eq_add_neg,e4] at this
    exact this
  cases e:f p with
  | none =>
    cases e2:g p with
    | none => rfl
    | some u =>
      obtain ⟨_,z,_⟩:=key h' h u e2
      rw [e] at z
      cases z
  | some t =>
    obtain ⟨u,e2,l⟩:=key h h' t e
    obtain ⟨t',e3,l'⟩:=key h' h u e2
    rw [e] at e3
    cases e3
    rw [e2]
    exact congrArg some (Rat.le_antisymm l' l)
theorem Dst.symm {f g:Key -> Option Rat} (h:Dst net a 0 f) (h':Dst net b 0 g):f b = g a:=by
  have key:∀ {f g:Key -> Option Rat} {a b:Key},Dst net a 0 f -> Dst net b 0 g -> ∀ t,f b = some t -> ∃ u,g a = some u /\ u <= t:=fun {f g a b} h h' t e => by
    obtain ⟨s,g1,rfl⟩:=h.is b t e
    exact h'.le a s g1.symm
  cases e:f b with
  | none =>
    cases e2:g a with
    | none => rfl
    | some u =>
      obtain ⟨_,z,_⟩:=key h' h u e2
      rw [e] at z
      cases z
  | some t =>
    obtain ⟨u,e2,l⟩:=key h h' t e
    obtain ⟨t',e3,l'⟩:=key h' h u e2
    rw [e] at e3
    cases e3
    rw [e2,Rat.le_antisymm l' l]
theorem Dst.self {f:Key -> Option Rat} (hp:∀ r ∈ net,0 < r.2.2) (h:Dst net a 0 f):f a = some 0:=by
  obtain ⟨u,e,l⟩:=h.le a 0 .nil
  obtain ⟨s,g,rfl⟩:=h.is a u e
  have:=g.nn hp
  rw [Rat.zero_add] at e l
  rw [Rat.add_zero] at l
  rw [e,Rat.le_antisymm l this]
end
open Classical in
noncomputable def dst (n:List TRun) (a:Key) (m:Rat):Key -> Option Rat:=if h:∃ f,Falls (kn n) (aget (lst [(a,m)])) (fun _ => none) f then Classical.choose h else fun _ => none
noncomputable def gd (n:List TRun) (s z:Str):Option Rat:=if z ∈ names n then dst n (Sum.inr s) (Rat.divInt 0 1) (Sum.inr z) else none
noncomputable def ApQ (n1 n2:List TRun) (H:Hp) (v:V) (x:Str×Str):Prop:=∃ p va vb,v = .ref p /\ H p = some (.tup [.str x.1,.str x.2,va,vb]) /\ OptQ H va (gd n1 x.1 x.2) /\ OptQ H vb (gd n2 x.1 x.2)
theorem ApQ.tk {n1 n2:List TRun} {H H':Hp} {v:V} {x:Str×Str} (h:ApQ n1 n2 H v x) (t:TK H H'):ApQ n1 n2 H' v x:=let ⟨p,a,b,e,h1,h2,h3⟩:=h; ⟨p,a,b,e,t _ _ h1,h2.tk t,h3.tk t⟩
noncomputable def ApO (n1 n2:List TRun) (H:Hp) (v:V):Option (Str×Str) -> Prop
  | none => v = .non
  | some x => ApQ n1 n2 H v x
theorem Pd.app {β:Type} {R:V -> β -> Prop}:∀ {xs ys:List V} {ds es:List β},Paired R xs ds -> Paired R ys es -> Paired R (xs ++ ys) (ds ++ es)
  | _,_,_,_,.nil,h => h
  | _,_,_,_,.cons r t,h => .cons r (Pd.app t h)
theorem c_lenc {X:Cx} {scope:Scope} {caps:List (Str×Addr)} {N:List Str} {C:Addr} {s0:Shared} {H0:Hp} {ex:List Addr}:CallR (cxComp X scope caps N C s0 H0 ex) (.builtin "len") (rLen X.K):=c_len
theorem ApO.tk {n1 n2:List TRun} {H H':Hp} {v:V} {o:Option (Str×Str)} (h:ApO n1 n2 H v o) (t:TK H H'):ApO n1 n2 H' v o:=by
  cases o with
  | none => exact h
  | some x => exact ApQ.tk h t
structure NetOk (H:Hp) (l:Addr) (n:List TRun) (U:List Str):Prop where
  lq:LQ RunQ H l (kn n)
  len:n.length <= 24
  tok:∀ r ∈ n,TOk r.2.2 /\ 0 < r.2.2
  ul:U.length <= 10
  un:∀ x ∈ names n,x ∈ U
theorem NetOk.sm {H H':Hp} {l:Addr} {n:List TRun} {U:List Str} (h:NetOk H l n U) (s:Same H H'):NetOk H' l n U:=⟨h.lq.sm RunQ.tk s,h.len,h.tok,h.ul,h.un⟩
end L2
namespace L2
open PySem PySem.Spec PyProof.Rows
noncomputable def fW (n:Nat) (acc:Addr) (Pv:Nat -> List V -> Hp -> Prop):Nat -> Nat -> List V -> Hp -> Prop:=fun i m ys H1 => m = n - i /\ i <= n /\ ys.length <= i /\ H1 acc = some (.lst ys) /\ Pv i ys H1
noncomputable def fNext (n:Nat) (acc:Addr) (Pv:Nat -> List V -> Hp -> Prop) (ys:List V) (i:Nat):VK:=fun y H3 => H3 acc = some (.lst ys) /\ ∃ m',m' < n - i /\ fW n acc Pv (i + 1) m' (ys ++ [y]) (upd H3 acc (.lst (ys ++ [y])))
noncomputable def fSkip (n:Nat) (acc:Addr) (Pv:Nat -> List V -> Hp -> Prop) (ys:List V) (i:Nat) (H3:Hp):Prop:=∃ m',m' < n - i /\ fW n acc Pv (i + 1) m' ys H3
theorem f_next {n:Nat} {acc:Addr} {Pv:Nat -> List V -> Hp -> Prop} {ys:List V} {i:Nat} {y:V} {H3:Hp} (hlt:i < n) (hl:ys.length <= i) (ha:H3 acc = some (.lst ys)) (p:Pv (i + 1) (ys ++ [y]) (upd H3 acc (.lst (ys ++ [y])))):fNext n acc Pv ys i y H3 :=
  ⟨ha,n - (i + 1),by omega,rfl,hlt,by rw [List.length_append]; simp; exact hl,upd_same,p⟩
theorem f_skip {n:Nat} {acc:Addr} {Pv:Nat -> List V -> Hp -> Prop} {ys:List V} {i:Nat} {H3:Hp} (hlt:i < n) (hl:ys.length <= i) (ha:H3 acc = some (.lst ys)) (p:Pv (i + 1) ys H3):fSkip n acc Pv ys i H3 :=
  ⟨n - (i + 1),by omega,rfl,hlt,by omega,ha,p⟩
section
variable {te:TE} {Q:VK} {H:Hp} {caps:St} {K:PySem.W.Frag}
theorem r_compLT {c:TT} {a:Addr} {xs:List V} (hn:xs.length <= 1000) (Pv:Addr -> Nat -> List V -> Hp -> Prop) (h0:∀ acc,H acc = none -> Pv acc 0 [] (upd H acc (.lst []))) (hl':∀ acc i ys H1,H acc = none -> i <= xs.length -> Pv acc i ys H1 -> SqL K H1 a xs)
    (hs:∀ acc i ys H1 x,H acc = none -> xs[i]? = some x -> ys.length <= i -> H1 acc = some (.lst ys) -> Pv acc i ys H1 -> c (some x :: caps) H1 fun b H3 => if b = true then te (some x :: caps) H3 (fNext xs.length acc (Pv acc) ys i) else fSkip xs.length acc (Pv acc) ys i H3)
    (hd:∀ acc ys H1,H acc = none -> H1 acc = some (.lst ys) -> ys.length <= xs.length -> Pv acc xs.length ys H1 -> Q (.ref acc) H1):compK te (some c) (gName 0) (List.replicate 1 none) caps Q (Itl K a) H:=by
  intro acc hacc
  refine ⟨fW xs.length acc (Pv acc),⟨xs.length,by simp,Nat.zero_le _,Nat.le_refl _,upd_same,h0 acc hacc⟩,?_⟩
  rintro i m ys H1 ⟨rfl,hi,hl,ha,p⟩
  have q:=hl' acc i ys H1 hacc hi p
  refine ⟨ha,?_⟩
  by_cases hlt:i < xs.length
  . refine .inr ⟨small1000 (by omega),⟨xs,xs[i],q,by simp [hlt]⟩,fun us x H' hu y => ?_⟩
    obtain ⟨e,y⟩:=y
    subst e
    obtain ⟨o,rfl⟩:=len1 hu
    exact ⟨⟨[some x],rfl,rfl⟩,hs acc i ys _ x hacc (y xs q) hl ha p⟩
  . have e:i = xs.length:=by omega
    subst e
    exact .inl ⟨⟨xs,q,Nat.le_refl _⟩,hd acc ys H1 hacc ha hl p⟩
end
noncomputable def ItrD (lo:Int) (n:Nat):It:=⟨fun i _ => i < n,fun i H x H' => H' = H /\ x = .int (lo - i),fun i _ => n <= i⟩
section
variable {X:Cx} {tg:Expr}
noncomputable def iRngD (ta:TA):TI:=fun σ H R => ta σ H fun vs H1 => ∃ i j:Int,vs = [.int i,.int j,.int (-1)] /\ (-(2 ^ 62) <= i /\ i < 2 ^ 62 /\ -(2 ^ 62) <= j /\ j < 2 ^ 62) /\ R (ItrD i (i - j).toNat) H1
theorem r_rngD {σ:St} {H:Hp} {R:It -> Hp -> Prop} {ta:TA} (k:ta σ H fun vs H1 => ∃ i j:Int,vs = [.int i,.int j,.int (-1)] /\ (-(2 ^ 62) <= i /\ i < 2 ^ 62 /\ -(2 ^ 62) <= j /\ j < 2 ^ 62) /\ R (ItrD i (i - j).toNat) H1):iRngD ta σ H R:=k
end
section
variable {σ:St} {H:Hp} {D:Ends} {K:PySem.W.Frag}
end
noncomputable def rngV (n:Nat):List V:=(List.range n).map fun (i:Nat) => V.int (i:Int)
noncomputable def tLrng (ta:TA):TE:=fun σ H Q => ta σ H fun vs H1 => ∃ n:Nat,vs = [.int n] /\ n <= 1000 /\ ∀ p,H1 p = none -> Q (.ref p) (upd H1 p (.lst (rngV n)))
theorem r_lrng {σ:St} {H:Hp} {Q:VK} {ta:TA} (k:ta σ H fun vs H1 => ∃ n:Nat,vs = [.int n] /\ n <= 1000 /\ ∀ p,H1 p = none -> Q (.ref p) (upd H1 p (.lst (rngV n)))):tLrng ta σ H Q:=k
section
variable {X:Cx}
noncomputable def rInsert:V -> List V -> Hp -> VK -> Prop:=fun x vs H Q => ∃ (l:Addr) (xs:List V) (i:Nat) (y:V),x = .ref l /\ vs = [.int i,y] /\ H l = some (.lst xs) /\ i <= xs.length /\ xs.length < 1000 /\ Q .non (upd H l (.lst (xs.take i ++ y :: xs.drop i)))
theorem mt_insert:MtM X "list.insert" rInsert:=by
  intro pins s σ H x vs v us Q I rx rv h
  obtain ⟨l,xs,i,y,rfl,rfl,hH,hi,hz,q⟩:=h
  cases rx
  obtain ⟨u,w',rfl,⟨t,rfl⟩,ry⟩:=vals2 rv
  obtain ⟨z,its,n,r,hl,e⟩:=I.lstM hH
  have hfit:¬ (!Builtin.List.listFitsIndex (i:Int)) = true:=by rw [fitsIndex_both (k:=(i:Int)) (by omega) (by omega)]; simp
  have hsz:its.toArray.size <= sizeLine:=by rw [List.size_toArray]; omega
  refine call_meets F.slot_list_insert ⟨_,e,rfl⟩ F.entry_list_insert (F.args_list_insert_3 (.ref l) (.int (i:Int) t) w') (@PySem.AutoSeq1.list_insert_list_int_val_1 l its.toArray n (i:Int) t w' hfit hsz) ⟨e,?_⟩
  refine ⟨.non,_,I.lset (its':=its.take i ++ w' :: its.drop i) hH e ?_ ((r.take i).append (.cons ry (r.drop i))) ?_,rfl,q⟩
  . have e1:¬ ((i:Int) < 0):=by omega
    have e2:min ((i:Int).toNat) its.toArray.size = i:=by rw [List.size_toArray]; omega
    show ((its.toArray.extract 0 (if (i:Int) < 0 then ((i:Int) + ((its.toArray.size:Nat):Int)).toNat else min ((i:Int).toNat) its.toArray.size)).push w' ++ its.toArray.extract (if (i:Int) < 0 then ((i:Int) + ((its.toArray.size:Nat):Int)).toNat else min ((i:Int).toNat) its.toArray.size)) = _
    rw [if_neg e1,e2]
    simp
    exact List.take_of_length_le (by rw [List.length_drop]; omega)
  . simp
    have:=sizeLine_eq
    omega
end
section
variable {H:Hp} {Q:VK}
theorem r_insert {l:Addr} {xs:List V} {i:Nat} {y:V} (h:H l = some (.lst xs)) (hi:i <= xs.length) (hz:xs.length < 1000) (q:Q .non (upd H l (.lst (xs.take i ++ y :: xs.drop i)))):rInsert (.ref l) [.int i,y] H Q:=⟨l,xs,i,y,rfl,rfl,h,hi,hz,q⟩
end
end L2
namespace L2
open PySem PySem.Spec PyProof.Rows
section
variable {net:List (RunD Key)} {push:Key -> Option Rat} {tk:Nat -> Option Rat}
end
noncomputable def but (ks:List Nat) (j:Nat):List Nat:=ks.filter fun k => decide (k ≠ j)
theorem n_nets {H:Hp} {Q:VK} {l1 l3:Addr} {n:List TRun} (h1:LQ RunQ H l1 (kn n)) (h3:LQ RunQ H l3 (kn n)) (k:Q (.bl false) H):rNeA (.ref l1) (.ref l3) H Q:=by
  obtain ⟨v1,a1,p1⟩:=h1
  obtain ⟨v3,a3,p3⟩:=h3
  refine n_lst (ds:=n.map dRun) (es:=n.map dRun) ⟨l1,_,rfl,a1,den_runs p1⟩ ⟨l3,_,rfl,a3,den_runs p3⟩ (Nat.le_trans (dep_runs n) (by decide)) ?_
  rw [DenL.same_eq _ _ (den_runs p1) (den_runs p1)]
  exact k
noncomputable def n4:List TRun:=[(sA,sB,Rat.divInt 1 1),(sB,sA,Rat.divInt 1 1)]
theorem r_slSe {H:Hp} {Q:VK} {z:Str} {lo hi:Option Int} (hz:z.length <= 100000) (k:Q (.str (Txt.slice z lo hi)) H):rSlS (.str z) lo hi H Q:=⟨z,rfl,by rw [sizeLine_eq]; omega,k⟩
section
variable {X:Cx} {scope:Scope} {caps:List (Str×Addr)} {N:List Str} {C:Addr} {s0:Shared} {H0:Hp} {ex:List Addr}
end
section
variable {te:TE} {Q:VK} {H:Hp} {caps:St} {K:PySem.W.Frag} {σ:St}
noncomputable def ittK (K:PySem.W.Frag) (R:It -> Hp -> Prop):VK:=fun x H1 => ∃ a,x = .ref a /\ (∃ xs,SqT K H1 a xs) /\ R (Itt K a) H1
theorem r_iTup {tl:TE} {R:It -> Hp -> Prop} (k:tl σ H (ittK K R)):iTup K tl σ H R:=k
theorem r_tupIt {a:Addr} {xs:List V} {R:It -> Hp -> Prop} (h:SqT K H a xs) (k:R (Itt K a) H):ittK K R (.ref a) H:=⟨a,rfl,⟨xs,h⟩,k⟩
theorem r_compT {a:Addr} {xs:List V} (hn:xs.length <= 1000) (Pv:Addr -> Nat -> List V -> Hp -> Prop) (h0:∀ acc,H acc = none -> Pv acc 0 [] (upd H acc (.lst []))) (hl':∀ acc i ys H1,H acc = none -> i <= xs.length -> Pv acc i ys H1 -> SqT K H1 a xs)
    (hs:∀ acc i ys H1 x,H acc = none -> xs[i]? = some x -> ys.length = i -> H1 acc = some (.lst ys) -> Pv acc i ys H1 -> te (some x :: caps) H1 (cNext xs.length acc (Pv acc) ys i))
    (hd:∀ acc ys H1,H acc = none -> H1 acc = some (.lst ys) -> ys.length = xs.length -> Pv acc xs.length ys H1 -> Q (.ref acc) H1):compK te none (gName 0) (List.replicate 1 none) caps Q (Itt K a) H:=by
  intro acc hacc
  refine ⟨cW xs.length acc (Pv acc),⟨xs.length,by simp,Nat.zero_le _,rfl,upd_same,h0 acc hacc⟩,?_⟩
  rintro i m ys H1 ⟨rfl,hi,hl,ha,p⟩
  have q:=hl' acc i ys H1 hacc hi p
  refine ⟨ha,?_⟩
  by_cases hlt:i < xs.length
  . refine .inr ⟨small1000 (by omega),⟨xs,xs[i],q,by simp [hlt]⟩,fun us x H' hu y => ?_⟩
    obtain ⟨e,y⟩:=y
    subst e
    obtain ⟨o,rfl⟩:=len1 hu
    exact ⟨⟨[some x],rfl,rfl⟩,hs acc i ys _ x hacc (y xs q) hl ha p⟩
  . have e:i = xs.length:=by omega
    subst e
    exact .inl ⟨⟨xs,q,Nat.le_refl _⟩,hd acc ys H1 hacc ha hl p⟩
end
theorem Pd.set {β:Type} {R:V -> β -> Prop}:∀ {xs:List V} {ds:List β} (_:Paired R xs ds) (j:Nat) {v:V} {b:β},R v b -> Paired R (xs.set j v) (ds.set j b)
  | _,_,.nil,_,_,_,_ => .nil
  | _,_,.cons r t,0,_,_,h => .cons h t
  | _,_,.cons r t,j + 1,_,_,h => .cons r (Pd.set t j h)
theorem Pd.erase {β:Type} {R:V -> β -> Prop}:∀ {xs:List V} {ds:List β} (_:Paired R xs ds) (j:Nat),Paired R (xs.eraseIdx j) (ds.eraseIdx j)
  | _,_,.nil,_ => .nil
  | _,_,.cons r t,0 => t
  | _,_,.cons r t,j + 1 => .cons r (Pd.erase t j)
theorem op_addAc {X:Cx} {scope:Scope} {caps:List (Str×Addr)} {N:List Str} {C:Addr} {s0:Shared} {H0:Hp} {ex:List Addr}:OpR (cxComp X scope caps N C s0 H0 ex) (binaryOp .Add) (rAddA X.K):=op_addA
end L2
namespace L2
open PySem PySem.Spec PyProof.Rows
theorem dig_len:∀ i,i < 1000 -> (Str.ofString (toString ((i:Nat):Int))).length <= 10:=by decide +kernel
section
variable {X:Cx}
noncomputable def tFmtI (te:TE):TE:=fun σ H Q => te σ H fun x H1 => ∃ i:Nat,x = .int i /\ i < 1000 /\ ∀ z:Str,z.length <= 10 -> Q (.str z) H1
theorem log_small {i:Nat} (h:i < 1000):((i:Nat):Int).natAbs.log2 < 1920:=by
  rw [Int.natAbs_natCast]
  by_cases e:i = 0
  . subst e; decide
  . have h1:i.log2 < 10:=(Nat.log2_lt e).mpr (by omega)
    omega
theorem pe_fmt {e:Expr} {te:TE} {pos:Pos} (he:PE X e te):PE X (.FormattedValue e (-1) none pos) (tFmtI te):=by
  intro pins s σ H Q I h
  refine wpAny_FormattedValue_plain (thn (he pins s σ H _ I h) fun v s1 ⟨x,H1,I1,r1,i,e1,hi,q⟩ => ?_)
  subst e1
  obtain ⟨t,rfl⟩:=r1
  exact wpAny_formatField_int (log_small hi) ⟨.str _,H1,I1.tok _,⟨_,rfl⟩,q _ (dig_len i hi)⟩
noncomputable def tJn:List TE -> TE
  | [],_,H,Q => ∀ z:Str,Q (.str z) H
  | t :: r,σ,H,Q => t σ H fun x H1 => ∃ y:Str,x = .str y /\ y.length <= 1000 /\ tJn r σ H1 Q
inductive PJs (X:Cx):List Expr -> List TE -> Prop
  | nil:PJs X [] []
  | cons {v:Expr} {vs:List Expr} {t:TE} {ts:List TE} (h:PE X v t) (r:PJs X vs ts):PJs X (v :: vs) (t :: ts)
theorem pj_nil:PJs X [] []:=.nil
theorem pj_cons {v:Expr} {vs:List Expr} {t:TE} {ts:List TE} (h:PE X v t) (r:PJs X vs ts):PJs X (v :: vs) (t :: ts):=.cons h r
theorem joins_of {pins:List (Addr×Obj)} {σ:St} {Q:VK}:∀ {vs:List Expr} {ts:List TE} (_:PJs X vs ts) (n:Nat) (acc:Str) (s:Shared) (H:Hp),acc.length <= 1000 * n -> ts.length + n <= 100 -> Inv X pins σ H s -> tJn ts σ H Q ->
    Joins (model X.prog X.w) X.A X.xe (evalEach vs X.env) acc (fun out s₁ => out.length <= sizeLine /\ EP X pins σ Q (.str out s₁.toks) { s₁ with toks:=s₁.toks + 1 }) s
  | _,_,.nil,n,acc,s,H,ha,hn,I,h => ⟨by rw [sizeLine_eq]; omega,.str acc,H,I.tok _,⟨_,rfl⟩,h acc⟩
  | v :: vs,t :: ts,.cons hp r,n,acc,s,H,ha,hn,I,h => by
    show wpAny _ _ (eval v X.env) _ _ s
    rw [List.length_cons] at hn
    refine thn (hp pins s σ H _ I h) fun u s1 ⟨x,H1,I1,r1,y,e1,hy,q⟩ => ?_
    subst e1
    obtain ⟨tk,rfl⟩:=r1
    have hl:=len_plus acc y
    refine ⟨y,tk,rfl,by rw [hl,sizeLine_eq]; omega,joins_of r (n + 1) (acc ++ y) s1 H1 (by omega) (by omega) I1 q⟩
theorem pe_fst {v1 v2:Expr} {rest:List Expr} {ts:List TE} {pos:Pos} (h:PJs X (v1 :: v2 :: rest) ts) (hn:ts.length <= 50):PE X (.JoinedStr (v1 :: v2 :: rest) pos) (tJn ts):=by
  intro pins s σ H Q I hq
  exact wpAny_JoinedStr (joins_of h 0 Str.empty s H (Nat.le_refl _) (by omega) I hq)
theorem r_jn0 {σ:St} {H:Hp} {Q:VK} (k:∀ z:Str,Q (.str z) H):tJn [] σ H Q:=k
noncomputable def jnK (r:List TE) (σ:St) (Q:VK):VK:=fun x H1 => ∃ y:Str,x = .str y /\ y.length <= 1000 /\ tJn r σ H1 Q
theorem r_jn {t:TE} {r:List TE} {σ:St} {H:Hp} {Q:VK} (k:t σ H (jnK r σ Q)):tJn (t :: r) σ H Q:=k
theorem r_jnK {r:List TE} {σ:St} {H:Hp} {Q:VK} {y:Str} (hy:y.length <= 1000) (k:tJn r σ H Q):jnK r σ Q (.str y) H:=⟨y,rfl,hy,k⟩
noncomputable def fmK (Q:VK):VK:=fun x H1 => ∃ i:Nat,x = .int i /\ i < 1000 /\ ∀ z:Str,z.length <= 10 -> Q (.str z) H1
theorem r_fmt {te:TE} {σ:St} {H:Hp} {Q:VK} (k:te σ H (fmK Q)):tFmtI te σ H Q:=k
theorem r_fmK {i:Nat} {H:Hp} {Q:VK} (hi:i < 1000) (k:∀ z:Str,z.length <= 10 -> Q (.str z) H):fmK Q (.int i) H:=⟨i,rfl,hi,k⟩
end
theorem pe_bmc {X:Cx} {scope:Scope} {caps:List (Str×Addr)} {N:List Str} {C:Addr} {s0:Shared} {H0:Hp} {ex:List Addr} {o e:Expr} {es:List Expr} {to:TE} {t:TA} {name:Str} {apos cpos:Pos} {T id:String} {r:V -> List V -> Hp -> VK -> Prop}
    (pa:PlainAttrs T) (slot:Slot T name id) (hty:typeOf (.builtin id) = pure (.type "method_descriptor")) (hm:MtR (cxComp X scope caps N C s0 H0 ex) id r) (ho:PE (cxComp X scope caps N C s0 H0 ex) o to) (ha:PA (cxComp X scope caps N C s0 H0 ex) (e :: es) t)
    (hbase:attributeBase o name (cxComp X scope caps N C s0 H0 ex).env (eval o (cxComp X scope caps N C s0 H0 ex).env) = eval o (cxComp X scope caps N C s0 H0 ex).env:=by rfl)
    (hfew:((backTo cpos (starEach (e :: es) (cxComp X scope caps N C s0 H0 ex).env)).all (fun x => !x.1) && (backToKw cpos (keywordEach [] (cxComp X scope caps N C s0 H0 ex).env)).all (fun x => x.1.isSome)
      && decide ((e :: es).length + ([]:List Keyword).length + (if ([]:List Keyword).isEmpty then 0 else 1) < 30)) = true:=by rfl)
    (hline:(apos.endLine == cpos.line) = true:=by rfl) (hs:starEach (e :: es) (cxComp X scope caps N C s0 H0 ex).env = (false,eval e (cxComp X scope caps N C s0 H0 ex).env) :: starEach es (cxComp X scope caps N C s0 H0 ex).env:=by rfl)
    (hplain:(backTo cpos (starEach es (cxComp X scope caps N C s0 H0 ex).env)).any (·.1) = false:=by rfl) :
    PE (cxComp X scope caps N C s0 H0 ex) (.Call (.Attribute o name apos) (e :: es) [] cpos) (tBM X.K T r to t):=pe_bm pa slot hty hm ho ha hbase hfew hline hs hplain
theorem NT.sm {K:PySem.W.Frag} {H H':Hp} {x:V} (h:NT K H x) (s:Same H H'):NT K H' x:=let ⟨t,ty,e⟩:=h; ⟨t,TyOf.sm ty s,e⟩
theorem IsRunQ.sm {K:PySem.W.Frag} {H H':Hp} {x:V} {b:Bool} (h:IsRunQ K H x b) (s:Same H H'):IsRunQ K H' x b:=by
  cases h with
  | nt h => exact .nt (h.sm s)
  | len h n => exact .len (s _ _ h) n
  | one h hu => exact .one (s _ _ h) (hu.sm s)
  | two h hu hv => exact .two (s _ _ h) (hu.sm s) (hv.sm s)
  | same h hu => exact .same (s _ _ h) (hu.sm s)
  | time h hu hv hn ht => exact .time (s _ _ h) (hu.sm s) (hv.sm s) hn fun H2 s2 => ht H2 (s.trans s2)
  | run h hu hv hn ht hf sa sc => exact .run (s _ _ h) (hu.sm s) (hv.sm s) hn (s _ _ ht) hf sa sc
noncomputable def NL (K:PySem.W.Frag) (H:Hp) (x:V):Prop:=∃ t,TyOf K H x t /\ PySem.W.kitOne K t (.type "list") = some false
section
variable {σ:St} {H:Hp} {D:Ends} {K:PySem.W.Frag}
end
end L2
namespace L2
open PySem PySem.Spec PyProof.Rows
inductive Wsh where
  | after (s u:Str) (q:Rat) | within (s u:Str) (q:Rat) | wit (s u:Str) | frm (s:Str) (q:Rat)
noncomputable def WishQ (H:Hp) (v:V):Wsh -> Prop
  | .after s u q => ∃ p t,v = .ref p /\ H p = some (.tup [.str "after",.str s,.str u,t]) /\ FrQ H t q
  | .within s u q => ∃ p t,v = .ref p /\ H p = some (.tup [.str "within",.str s,.str u,t]) /\ FrQ H t q
  | .wit s u => ∃ p,v = .ref p /\ H p = some (.tup [.str "with",.str s,.str u])
  | .frm s q => ∃ p t,v = .ref p /\ H p = some (.tup [.str "from",.str s,t]) /\ FrQ H t q
theorem WishQ.tk {H H':Hp} {v:V}:∀ {w:Wsh},WishQ H v w -> TK H H' -> WishQ H' v w
  | .after _ _ _,⟨p,t,e,h,f⟩,k => ⟨p,t,e,k _ _ h,f.tk k⟩
  | .within _ _ _,⟨p,t,e,h,f⟩,k => ⟨p,t,e,k _ _ h,f.tk k⟩
  | .wit _ _,⟨p,e,h⟩,k => ⟨p,e,k _ _ h⟩
  | .frm _ _,⟨p,t,e,h,f⟩,k => ⟨p,t,e,k _ _ h,f.tk k⟩
noncomputable def PostS (s:Str):Prop:=postB s = true /\ s.length <= 100
theorem PostS.q {K:PySem.W.Frag} {H:Hp} {s:Str} (h:PostS s):PostQ K H (.str s) true:=.inl ⟨s,rfl,by have:=h.2; omega,h.1.symm⟩
noncomputable def SmR (q:Rat):Prop:=Sm 8000 q.num /\ Sm 8000 (q.den:Int)
noncomputable def Wsh.ok:Wsh -> Prop
  | .after s u q => PostS s /\ PostS u /\ s ≠ u /\ SmR q
  | .within s u q => PostS s /\ PostS u /\ s ≠ u /\ SmR q
  | .wit s u => PostS s /\ PostS u /\ s ≠ u
  | .frm s q => PostS s /\ 0 <= q.num /\ SmR q
theorem fr_frV (q:Rat):frV (.int q.num) (.int q.den) = true:=by
  show (decide (1 <= (q.den:Int)) && decide (Int.gcd q.num q.den = 1)) = true
  have h1:1 <= (q.den:Int):=by have:=q.den_pos; omega
  have h2:Int.gcd q.num q.den = 1:=q.reduced
  rw [decide_eq_true h1,decide_eq_true h2]
  rfl
theorem FrQ.frq {K:PySem.W.Frag} {H:Hp} {v:V} {q:Rat} (h:FrQ H v q) (s:SmR q):Frq K H v true:=by
  obtain ⟨p,rfl,hp⟩:=h
  exact .inr (.inr ⟨p,_,_,rfl,hp,rfl,rfl,fun a b e1 e2 => by cases e1; cases e2; exact s,(fr_frV q).symm⟩)
inductive PairQ (K:PySem.W.Frag) (H:Hp):V -> V -> Bool -> Prop
  | one {x y:V} (h:PostQ K H x false):PairQ K H x y false
  | two {x y:V} (hx:PostQ K H x true) (hy:PostQ K H y false):PairQ K H x y false
  | both {s u:Str} (hx:PostQ K H (.str s) true) (hy:PostQ K H (.str u) true):PairQ K H (.str s) (.str u) (!decide (s = u))
theorem PairQ.sm {K:PySem.W.Frag} {H H':Hp} {x y:V} {b:Bool} (h:PairQ K H x y b) (s:Same H H'):PairQ K H' x y b:=by
  cases h with
  | one h => exact .one (h.sm s)
  | two hx hy => exact .two (hx.sm s) (hy.sm s)
  | both hx hy => exact .both (hx.sm s) (hy.sm s)
inductive MomQ (K:PySem.W.Frag) (H:Hp):V -> Bool -> Prop
  | no {x:V} (h:Frq K H x false):MomQ K H x false
  | fr {p:Addr} {a b:Int} (h:H p = some (.tup [.int a,.int b])) (hf:frV (.int a) (.int b) = true) (sa:Sm 8000 a) (sb:Sm 8000 b):MomQ K H (.ref p) (decide (0 <= a))
inductive IsWishQ (K:PySem.W.Frag) (H:Hp):V -> Bool -> Prop
  | nt {x:V} (h:NT K H x):IsWishQ K H x false
  | len {p:Addr} {xs:List V} (h:H p = some (.tup xs)) (n3:xs.length ≠ 3) (n4:xs.length ≠ 4):IsWishQ K H (.ref p) false
  | no3 {p:Addr} {u x t:V} (h:H p = some (.tup [u,x,t])) (hu:NS K H u):IsWishQ K H (.ref p) false
  | four {p:Addr} {k:Str} {x y t:V} (h:H p = some (.tup [.str k,x,y,t])) (h1:k ≠ "after") (h2:k ≠ "within"):IsWishQ K H (.ref p) false
  | nop {p:Addr} {k:Str} {x y t:V} (h:H p = some (.tup [.str k,x,y,t])) (h1:k = "after" ∨ k = "within") (hp:PairQ K H x y false):IsWishQ K H (.ref p) false
  | frac {p:Addr} {k:Str} {x y t:V} {b:Bool} (h:H p = some (.tup [.str k,x,y,t])) (h1:k = "after" ∨ k = "within") (hp:PairQ K H x y true) (ht:∀ H',Same H H' -> Frq K H' t b):IsWishQ K H (.ref p) b
  | frm0 {p:Addr} {x t:V} (h:H p = some (.tup [.str "from",x,t])) (hx:PostQ K H x false):IsWishQ K H (.ref p) false
  | frm {p:Addr} {x t:V} {b:Bool} (h:H p = some (.tup [.str "from",x,t])) (hx:PostQ K H x true) (ht:∀ H',Same H H' -> MomQ K H' t b):IsWishQ K H (.ref p) b
  | wit0 {p:Addr} {k:Str} {x y:V} (h:H p = some (.tup [.str k,x,y])) (h1:k ≠ "from") (h2:k ≠ "with"):IsWishQ K H (.ref p) false
  | wit {p:Addr} {x y:V} {b:Bool} (h:H p = some (.tup [.str "with",x,y])) (hp:PairQ K H x y b):IsWishQ K H (.ref p) b
theorem WishQ.is {K:PySem.W.Frag} {H:Hp} {v:V}:∀ {w:Wsh},WishQ H v w -> w.ok -> IsWishQ K H v true
  | .after s u q,⟨p,t,e,h,f⟩,⟨h1,h2,h3,h4⟩ => by
    subst e
    have:=PairQ.both (K:=K) (H:=H) h1.q h2.q
    rw [decide_eq_false h3] at this
    exact .frac h (.inl rfl) this fun H' s' => (f.tk s'.tk).frq h4
  | .within s u q,⟨p,t,e,h,f⟩,⟨h1,h2,h3,h4⟩ => by
    subst e
    have:=PairQ.both (K:=K) (H:=H) h1.q h2.q
    rw [decide_eq_false h3] at this
    exact .frac h (.inr rfl) this fun H' s' => (f.tk s'.tk).frq h4
  | .wit s u,⟨p,e,h⟩,⟨h1,h2,h3⟩ => by
    subst e
    have:=PairQ.both (K:=K) (H:=H) h1.q h2.q
    rw [decide_eq_false h3] at this
    exact .wit h this
  | .frm s q,⟨p,t,e,h,f⟩,⟨h1,h2,h3⟩ => by
    subst e
    refine .frm h h1.q fun H' s' => ?_
    obtain ⟨pt,rfl,hpt⟩:=f.tk s'.tk
    have:=MomQ.fr (K:=K) hpt (fr_frV q) h3.1 h3.2
    rw [decide_eq_true h2] at this
    exact this
noncomputable abbrev Stp:=Str×Str×Rat×Nat
noncomputable def StepQ (H:Hp) (v:V) (x:Stp):Prop:=∃ p t,v = .ref p /\ H p = some (.tup [.str x.1,.str x.2.1,t,.int x.2.2.2]) /\ FrQ H t x.2.2.1
theorem StepQ.tk {H H':Hp} {v:V} {x:Stp} (h:StepQ H v x) (k:TK H H'):StepQ H' v x:=let ⟨p,t,e,h,f⟩:=h; ⟨p,t,e,k _ _ h,f.tk k⟩
noncomputable def dWish:Wsh -> Dt
  | .after s u q => .tup [.str "after",.str s,.str u,dFr q]
  | .within s u q => .tup [.str "within",.str s,.str u,dFr q]
  | .wit s u => .tup [.str "with",.str s,.str u]
  | .frm s q => .tup [.str "from",.str s,dFr q]
noncomputable def dStep (x:Stp):Dt:=.tup [.str x.1,.str x.2.1,dFr x.2.2.1,.int x.2.2.2]
theorem FrQ.den {H:Hp} {v:V} {q:Rat} (h:FrQ H v q):Den H (dFr q) v:=by
  obtain ⟨p,rfl,h⟩:=h
  exact den2 h
theorem WishQ.den {H:Hp} {v:V}:∀ {w:Wsh},WishQ H v w -> Den H (dWish w) v
  | .after s u q,⟨p,t,e,h,f⟩ => ⟨p,_,e,h,_,_,rfl,rfl,_,_,rfl,rfl,_,_,rfl,rfl,_,_,rfl,f.den,rfl⟩
  | .within s u q,⟨p,t,e,h,f⟩ => ⟨p,_,e,h,_,_,rfl,rfl,_,_,rfl,rfl,_,_,rfl,rfl,_,_,rfl,f.den,rfl⟩
  | .wit s u,⟨p,e,h⟩ => ⟨p,_,e,h,_,_,rfl,rfl,_,_,rfl,rfl,_,_,rfl,rfl,rfl⟩
  | .frm s q,⟨p,t,e,h,f⟩ => ⟨p,_,e,h,_,_,rfl,rfl,_,_,rfl,rfl,_,_,rfl,f.den,rfl⟩
theorem StepQ.den {H:Hp} {v:V} {x:Stp} (h:StepQ H v x):Den H (dStep x) v :=
  let ⟨p,t,e,h,f⟩:=h; ⟨p,_,e,h,_,_,rfl,rfl,_,_,rfl,rfl,_,_,rfl,f.den,_,_,rfl,rfl,rfl⟩
theorem den_of {β:Type} {R:Hp -> V -> β -> Prop} {H:Hp} {f:β -> Dt} (hR:∀ v b,R H v b -> Den H (f b) v):∀ {ds:List β} {vs:List V},Paired (R H) vs ds -> DenL H (ds.map f) vs
  | [],_,.nil => rfl
  | d :: ds,_,.cons h t => ⟨_,_,rfl,hR _ _ h,den_of hR t⟩
theorem depL_of {β:Type} {f:β -> Dt} (h:∀ b,dep (f b) <= 5):∀ ds:List β,depL (ds.map f) <= 50
  | [] => by simp [depL]
  | d :: ds => by
    have h1:=h d
    have h2:=depL_of h ds
    rw [List.map_cons]
    simp only [depL]
    omega
section
variable {H:Hp} {Q:VK} {l1 l2:Addr}
theorem n_like {β:Type} {R:Hp -> V -> β -> Prop} {f:β -> Dt} {ds:List β} (hR:∀ v b,R H v b -> Den H (f b) v) (hd:∀ b,dep (f b) <= 5) (h1:LQ R H l1 ds) (h2:LQ R H l2 ds) (k:Q (.bl false) H):rNeA (.ref l1) (.ref l2) H Q:=by
  obtain ⟨v1,a1,p1⟩:=h1
  obtain ⟨v2,a2,p2⟩:=h2
  refine n_lst (ds:=ds.map f) (es:=ds.map f) ⟨l1,_,rfl,a1,den_of hR p1⟩ ⟨l2,_,rfl,a2,den_of hR p2⟩ (depL_of hd ds) ?_
  rw [DenL.same_eq _ _ (den_of hR p1) (den_of hR p1)]
  exact k
end
theorem pd_app {β:Type} {R:V -> β -> Prop}:∀ {xs ys:List V} {ds es:List β},Paired R xs ds -> Paired R ys es -> Paired R (xs ++ ys) (ds ++ es)
  | [],_,[],_,.nil,s => s
  | _ :: _,_,_ :: _,_,.cons r t,s => .cons r (pd_app t s)
noncomputable def bef (i:Nat):Str:=([("":Str),"ab","abc.d","x.y.z"][i]?).getD ""
noncomputable def beh (i:Nat):Str:=([("":Str),"q",".r","qqqq"][i]?).getD ""
theorem nn_a {a b c:Int} (h1:0 <= a) (h2:0 <= b) (h3:0 <= c):0 <= (a * 2147483587 + b) * 2147483543 + c:=Int.add_nonneg (Int.mul_nonneg (Int.add_nonneg (Int.mul_nonneg h1 (by decide)) h2) (by decide)) h3
theorem nn_b {a c:Int} (h:0 <= a):0 <= a * 1000000000000000000 + c % 1000000000000000000:=Int.add_nonneg (Int.mul_nonneg h (by decide)) (Int.emod_nonneg c (by decide))
end L2
namespace L2
open PySem PySem.Spec PyProof.Rows
noncomputable def rMulS:R2:=fun x y H Q => ∃ (z:Str) (n:Int),x = .str z /\ y = .int n /\ 0 <= n /\ n <= 1000 /\ z.length <= 1000 /\ ∀ u:Str,u.cps.toList = (List.replicate n.toNat z.cps.toList).flatten -> Q (.str u) H
theorem fold_app:∀ (l:List (Array Nat)) (a:Array Nat),(l.foldl (· ++ ·) a).toList = a.toList ++ (l.map (·.toList)).flatten
  | [],a => by simp
  | x :: l,a => by
    rw [List.foldl_cons,fold_app l (a ++ x)]
    simp
theorem op_mulS {X:Cx}:OpR X (binaryOp .Mult) rMulS:=by
  intro pins s σ H x y v u Q I rx ry h
  obtain ⟨z,n,rfl,rfl,h0,h1,hz,q⟩:=h
  obtain ⟨t,rfl⟩:=rx
  obtain ⟨t',rfl⟩:=ry
  have hfit:z.length * n.toNat <= 1000000:=Nat.le_trans (Nat.mul_le_mul hz (show n.toNat <= 1000 by omega)) (by decide)
  refine PySem.P.mul_str ?_ (fun h2 _ => ?_) (fun _ _ => ?_) ?_
  . rw [decide_eq_false (by omega),decide_eq_false (by omega)]
    rfl
  . intro z2
    have e1:(2 ^ 63 - 1) / n ≥ (2 ^ 63 - 1) / 1000:=Int.le_ediv_of_mul_le (by omega) (by
      have:(2 ^ 63 - 1) / 1000 * n <= (2 ^ 63 - 1) / 1000 * 1000:=Int.mul_le_mul_of_nonneg_left h1 (by decide)
      exact Int.le_trans this (by decide))
    have:((2:Int) ^ 63 - 1) / 1000 > 1000:=by decide
    omega
  . unfold Builtin.Str.tooLong
    rw [decide_eq_false_iff_not,sizeLine_eq]
    omega
  . split
    . refine ⟨by decide,.str Str.empty,H,I.tok _,⟨_,rfl⟩,q _ ?_⟩
      have:n.toNat = 0:=by omega
      rw [this]
      rfl
    . split
      . rename_i h3 h4
        refine ⟨.str z,H,I,⟨_,rfl⟩,q _ ?_⟩
        rw [Bool.or_eq_true] at h4
        rcases h4 with h4 | h4
        . have:n = 1:=by simpa using h4
          subst this
          simp
        . have hz0:z.cps.toList = []:=by
            have:z.length = 0:=by simpa using h4
            rw [len_cps] at this
            exact List.eq_nil_of_length_eq_zero this
          rw [hz0]
          simp
      . have e:(⟨(List.replicate n.toNat z.cps).foldl (· ++ ·) #[]⟩:Str).cps.toList = (List.replicate n.toNat z.cps.toList).flatten:=by
          rw [fold_app]
          simp
        refine ⟨?_,.str _,H,I.tok _,⟨_,rfl⟩,q _ e⟩
        rw [len_cps,e,List.length_flatten,List.map_replicate,List.sum_replicate_nat,← len_cps,sizeLine_eq]
        have:=Nat.mul_comm n.toNat z.length
        omega
theorem cnt_split (z:Str):(Builtin.Str.occurrences z ⟨#[46]⟩ 0 z.length (z.length + 1)).length + 1 = (Txt.split z ⟨#[46]⟩).length:=by
  have hfree:=StrLaws.split_free z 46
  unfold Txt.split
  split
  . rename_i h
    rw [Bool.or_eq_true,decide_eq_true_iff,decide_eq_true_iff] at h
    have h0:z.length = 0:=by
      rcases h with h | h
      . have:(⟨#[46]⟩:Str).length = 1:=rfl
        omega
      . exfalso
        have e1:Builtin.Str.strKind ⟨#[46]⟩ = 1:=by decide +kernel
        rw [e1] at h
        unfold Builtin.Str.strKind at h
        split at h
        . omega
        . split at h <;> omega
    have hz:z = ⟨#[]⟩:=by
      obtain ⟨c⟩:=z
      have:c.size = 0:=h0
      rw [Array.size_eq_zero_iff.mp this]
    subst hz
    decide +kernel
  . split
    . rename_i h
      rw [List.isEmpty_iff.mp h]
      rfl
    . rw [length_partsBetween]
noncomputable def rCntP:V -> List V -> Hp -> VK -> Prop:=fun x vs H Q => ∃ z:Str,x = .str z /\ vs = [.str ⟨#[46]⟩] /\ ∀ n:Nat,n + 1 = (Txt.split z ⟨#[46]⟩).length -> Q (.int (n:Int)) H
theorem mt_cntP {X:Cx}:MtR X "str.count" rCntP:=by
  intro pins s σ H x vs v us Q I rx rv h
  obtain ⟨z,rfl,rfl,q⟩:=h
  obtain ⟨t,rfl⟩:=rx
  obtain ⟨u,rfl,ru⟩:=rv.one
  obtain ⟨t',rfl⟩:=ru
  refine call_gives F.slot_str_count (typeIs_str _ _ _) F.entry_str_count (F.args_str_count_2 _ _) (gives_str_count z ⟨#[46]⟩ t t') ?_
  exact ⟨.int _,H,I.tok _,⟨_,rfl⟩,q _ (cnt_split z)⟩
noncomputable def LetS (z:Str):Prop:=∀ c ∈ z.cps.toList,97 <= c /\ c < 123
theorem partB_of {z:Str} (h1:1 <= z.length) (h2:z.length <= 8) (h:LetS z):partB z = true:=by
  unfold partB
  rw [decide_eq_true h1,decide_eq_true h2,Bool.true_and,Bool.true_and,List.all_eq_true]
  intro c hc
  rw [decide_eq_true (h c hc).1,decide_eq_true (h c hc).2]
  rfl
theorem LetS.app {x y:Str} (h:LetS x) (h':LetS y):LetS (x ++ y):=fun c hc => by
  have e:(x ++ y).cps.toList = x.cps.toList ++ y.cps.toList:=by
    show (x.cps ++ y.cps).toList = _
    simp
  rw [e] at hc
  exact (List.mem_append.mp hc).elim (h c) (h' c)
theorem LetS.one {c:Nat} (h1:97 <= c) (h2:c < 123):LetS ⟨#[c]⟩:=fun x hx => by
  have:x = c:=by simpa using hx
  subst this
  exact ⟨h1,h2⟩
theorem sl4:∀ j:Nat,j < 4 -> (Txt.slice abc none (some (j:Int))).length = j /\ LetS (Txt.slice abc none (some (j:Int))):=by
  intro j hj
  have:j = 0 ∨ j = 1 ∨ j = 2 ∨ j = 3:=by omega
  unfold LetS
  rcases this with rfl | rfl | rfl | rfl <;> decide +kernel
theorem rep_let {u z:Str} {n:Nat} (e:u.cps.toList = (List.replicate n z.cps.toList).flatten) (hz:z.length = 1) (h:LetS z):u.length = n /\ LetS u:=by
  constructor
  . rw [len_cps,e,List.length_flatten,List.map_replicate,List.sum_replicate_nat,← len_cps,hz,Nat.mul_one]
  . intro c hc
    rw [e] at hc
    obtain ⟨l,hl,hc⟩:=List.mem_flatten.mp hc
    rw [List.eq_of_mem_replicate hl] at hc
    exact h c hc
inductive RKind where
  | row | star | ring
noncomputable def RKind.nm:RKind -> Str
  | .row => "row"
  | .star => "star"
  | .ring => "ring"
inductive PRow where
  | run (a b:Str) (t:Rat) | path (k:RKind) (t:Rat) (ps:List Str)
noncomputable def PRowQ (H:Hp) (v:V):PRow -> Prop
  | .run a b t => ∃ p u,v = .ref p /\ H p = some (.tup [.str "run",.str a,.str b,u]) /\ FrQ H u t
  | .path k t ps => ∃ p u q,v = .ref p /\ H p = some (.tup [.str k.nm,u,.ref q]) /\ FrQ H u t /\ H q = some (.tup (ps.map V.str))
theorem PRowQ.tk {H H':Hp} {v:V} {r:PRow} (h:PRowQ H v r) (t:TK H H'):PRowQ H' v r:=by
  cases r with
  | run a b q => obtain ⟨p,u,e,h,f⟩:=h; exact ⟨p,u,e,t _ _ h,f.tk t⟩
  | path k q ps => obtain ⟨p,u,z,e,h,f,g⟩:=h; exact ⟨p,u,z,e,t _ _ h,f.tk t,t _ _ g⟩
noncomputable def along (t:Rat):List Str -> List TRun
  | a :: b :: r => (a,b,t) :: along t (b :: r)
  | _ => []
noncomputable def PRow.runs:PRow -> List TRun
  | .run a b t => [(a,b,t)]
  | .path .row t ps => along t ps
  | .path .star t ps => ps.tail.map fun x => (ps.headD "",x,t)
  | .path .ring t ps => along t (ps ++ ps.take 1)
noncomputable def TimR (q:Rat):Prop:=0 < q /\ q.num <= 999999999999 /\ q.den <= 999999999999
noncomputable def okP:PRow -> Prop
  | .run a b t => PostS a /\ PostS b /\ TimR t
  | .path k t ps => (∀ s ∈ ps,PostS s) /\ TimR t /\ 2 <= ps.length /\ ps.length <= 30 /\ (k = .ring -> 3 <= ps.length)
noncomputable def PRow.kind:PRow -> Str
  | .run _ _ _ => "run"
  | .path k _ _ => k.nm
theorem PRowQ.head {H:Hp} {v:V} {r:PRow} (h:PRowQ H v r):∃ p xs,v = .ref p /\ H p = some (.tup (.str r.kind :: xs)):=by
  cases r with
  | run a b t => obtain ⟨p,u,e,h,_⟩:=h; exact ⟨p,_,e,h⟩
  | path k t ps => obtain ⟨p,u,q,e,h,_⟩:=h; exact ⟨p,_,e,h⟩
theorem PRow.no_piece (r:PRow):r.kind ≠ "piece":=by
  cases r with
  | run a b t => exact show ("run":Str) ≠ "piece" by decide +kernel
  | path k t ps =>
    show k.nm ≠ "piece"
    cases k <;> decide +kernel
theorem along_len (t:Rat):∀ ps:List Str,(along t ps).length = ps.length - 1
  | [] => rfl
  | [_] => rfl
  | a :: b :: r => by
    show (along t (b :: r)).length + 1 = _
    rw [along_len t (b :: r)]
    simp
theorem along_snoc (t:Rat) (x y:Str):∀ ps:List Str,along t (ps ++ [x,y]) = along t (ps ++ [x]) ++ [(x,y,t)]
  | [] => rfl
  | [a] => rfl
  | a :: b :: r => by
    show (a,b,t) :: along t ((b :: r) ++ [x,y]) = (a,b,t) :: (along t ((b :: r) ++ [x]) ++ _)
    rw [along_snoc t x y (b :: r)]
theorem along_at (t:Rat):∀ (ps:List Str) (i:Nat) (a b:Str),ps[i]? = some a -> ps[i + 1]? = some b -> (along t ps)[i]? = some (a,b,t)
  | [],_,_,_,h,_ => nomatch h
  | [_],0,_,_,_,h => nomatch h
  | [_],i + 1,_,_,h,_ => nomatch h
  | x :: y :: r,0,a,b,h,h' => by cases h; cases h'; rfl
  | x :: y :: r,i + 1,a,b,h,h' => along_at t (y :: r) i a b h h'
section
open Sem (wp)
open AutoSeq1 (wpAny_loadPart')
variable {prog:Program} {w:World} {A:Around} {E:Value -> Shared -> Prop} {s:Shared}
theorem nextT_item {it t:Addr} {i:Nat} {its:Array Value} {x:Value} {Q:Value -> Shared -> Prop} (hit:s.heap.IsTupleIter it t i) (ht:s.heap.IsTuple t its) (hx:its[i]? = some x)
    (q:∀ h',h'.IsTupleIter it t (i + 1) -> Heap.SameBut it s.heap h' -> Q x { s with heap:=h' }):wpAny (model prog w) A (Builtin.SmallTypes.nextOf (.ref it)) Q E s:=by
  obtain ⟨o,ho,hc,hd⟩:=id hit
  obtain ⟨ol,hol,_,nl,hdl⟩:=ht
  unfold Builtin.SmallTypes.nextOf
  refine wpAny_bind (wpAny_callSpecial?_slot (name:=Str.ofString "__next__") hit.typeIs F.slot_tuple_iterator_next (wpAny_call_entry F.slot_tuple_iterator_next hit.typeIs F.entry_tuple_iterator_next ?_ (F.args_tuple_iterator_next_1 _)))
  show wpAny _ _ (field (.ref it) 0 >>= _) _ _ s
  refine wpAny_bind (wpAny_field ho hd (x:=.ref t) rfl ?_)
  show wpAny _ _ (if (Value.ref t == Value.none) = true then _ else _) _ _ s
  rw [if_neg (show ¬ ((Value.ref t == Value.none) = true) from Bool.false_ne_true)]
  show wpAny _ _ (field (.ref it) 1 >>= _) _ _ s
  refine wpAny_bind (wpAny_field ho hd (x:=.int i 0) rfl ?_)
  show wpAny _ _ (seqItems? (.ref t) >>= _) _ _ s
  refine wpAny_bind (wpAny_seqItems hol hdl ?_)
  simp only [Int.toNat_natCast,hx]
  refine wpAny_bind (wpAny_setField ho hd (by simp) (wpAny_pure ⟨x,rfl,wpAny_pure (q _ ?_ (Heap.SameBut.update ..))⟩))
  exact ⟨_,Heap.get?_update_self _ ho (Obj.isFreed_of_fields (Obj.data_mapFields hd _)),(Obj.cls_mapFields ..).trans hc,by
    rw [Obj.data_mapFields hd]
    simp [rawInt]⟩
theorem nextT_end {it t:Addr} {i:Nat} {its:Array Value} {Q:Value -> Shared -> Prop} (hh:A.handled = none) (hit:s.heap.IsTupleIter it t i) (ht:s.heap.IsTuple t its) (hx:its[i]? = none)
    (q:∀ h' e,Heap.ExtBut it s.heap h' -> (∃ o,h'.get? e = some o /\ o.cls = .type "StopIteration") -> E (.ref e) { s with heap:=h' }):wpAny (model prog w) A (Builtin.SmallTypes.nextOf (.ref it)) Q E s:=by
  obtain ⟨o,ho,hc,hd⟩:=id hit
  obtain ⟨ol,hol,_,nl,hdl⟩:=ht
  unfold Builtin.SmallTypes.nextOf
  refine wpAny_bind (wpAny_callSpecial?_slot (name:=Str.ofString "__next__") hit.typeIs F.slot_tuple_iterator_next (wpAny_call_entry F.slot_tuple_iterator_next hit.typeIs F.entry_tuple_iterator_next ?_ (F.args_tuple_iterator_next_1 _)))
  show wpAny _ _ (field (.ref it) 0 >>= _) _ _ s
  refine wpAny_bind (wpAny_field ho hd (x:=.ref t) rfl ?_)
  show wpAny _ _ (if (Value.ref t == Value.none) = true then _ else _) _ _ s
  rw [if_neg (show ¬ ((Value.ref t == Value.none) = true) from Bool.false_ne_true)]
  show wpAny _ _ (field (.ref it) 1 >>= _) _ _ s
  refine wpAny_bind (wpAny_field ho hd (x:=.int i 0) rfl ?_)
  show wpAny _ _ (seqItems? (.ref t) >>= _) _ _ s
  refine wpAny_bind (wpAny_seqItems hol hdl ?_)
  simp only [Int.toNat_natCast,hx]
  refine wpAny_bind (wpAny_rule (wpAny_bind (wpAny_setField ho hd (by simp) ?_)))
  show wpAny _ _ (newExc (.type "StopIteration") [] >>= _) _ _ _
  refine wpAny_bind ?_
  simp only [newExc,newTuple]
  refine wpAny_bind (wpAny_newObj_type ?_ (by size_fits))
  refine wpAny_bind (m:=firstArgMember _ _) (wpAny_of_eq (a:=Value.none) (by first | rfl | (simp only [firstArgMember]; rfl)) ?_)
  refine wpAny_newObj_type ?_ (by size_fits)
  simp only [raiseNew]
  refine wpAny_bind (wpAny_handled ?_)
  first | rw [show A.in1.handled = none from hh] | rw [hh]
  refine wpAny_bind (wpAny_pure (wpAny_throw ?_))
  exact q _ _ (((Heap.SameBut.update ..).extBut.push _).push _) ⟨_,Heap.get?_push_size _ rfl,rfl⟩
theorem draws_tup (hh:A.handled = none) (it t:Addr) (hne:t ≠ it) (its:Array Value):Draws prog w A it [it,t] its.size (fun i v => its[i]? = some v) (fun i h => h.IsTupleIter it t i /\ h.IsTuple t its) where
  live:=fun _ _ ⟨⟨o,e,_⟩,_⟩ => ⟨o,e⟩
  frame:=fun _ _ _ st k => ⟨st.1.at fun o e => k it (by simp) o e,st.2.at fun o e => k t (by simp) o e⟩
  item:=fun i s Q E hi st q => nextT_item st.1 st.2 (x:=its[i]) (by simp [hi]) fun h' a b => q _ h' s.toks (by simp [hi]) ⟨a,st.2.extBut b.extBut hne⟩ b
  done:=fun s Q E st q => nextT_end hh st.1 st.2 (by simp) q
theorem meets_enumT (l:Addr) (its:Array Value) (n:Nat) (dct:Option Addr) (sl:Array (Option Value)) :
    Meets (Builtin.«enumerate.__new__» ⟨[.type "enumerate",.ref l],[]⟩) (fun _ R s => s.heap.get? l = some { cls:=.type "tuple",dict:=dct,data:=.seq its n,slots:=sl } /\
      R (.ok (.ret (.ref (s.heap.push { cls:=.type "tuple_iterator",data:=.fields #[.ref l,.int 0 0] }).objs.size)))
        { s with heap:=(s.heap.push { cls:=.type "tuple_iterator",data:=.fields #[.ref l,.int 0 0] }).push { cls:=.type "enumerate",data:=.fields #[.none,.bool false,.ref s.heap.objs.size,rawInt 0,.none,.none] } }) :=
  .of_wp fun prog w A R s h => by
    obtain ⟨hp,g,d,tk,os⟩:=s
    obtain ⟨hl,h⟩:=h
    have hsub:=sub_enumerate
    have hL:Heap.IsTuple (Shared.heap ⟨hp,g,d,tk,os⟩) l its:=⟨_,hl,rfl,n,rfl⟩
    wp_walk using wpAny_loadPart' hl
    refine wpAny_stack_any fun st => wpAny_pure ?_
    split
    . rename_i c _ _ _ _ _
      cases (c == Value.type "enumerate") <;> (wp_walk using wpAny_loadPart' hl,wpAny_pyIter_tuple hL; exact ⟨_,rfl,h⟩)
    . wp_walk using wpAny_loadPart' hl,wpAny_pyIter_tuple hL
      exact ⟨_,rfl,h⟩
theorem call_enumT {l:Addr} {its:Array Value} {Q:Value -> Shared -> Prop} (hL:s.heap.IsTuple l its)
    (q:∀ h',IsEnum h' (s.heap.objs.size + 1) s.heap.objs.size 0 .none -> h'.IsTupleIter s.heap.objs.size l 0 -> (∀ b o,s.heap.get? b = some o -> h'.get? b = some o) -> Q (.ref (s.heap.objs.size + 1)) { s with heap:=h' }) :
    wpAny (model prog w) A (call (.type "enumerate") [.ref l]) Q E s:=by
  obtain ⟨⟨c,dct,dt,sl⟩,hl,hc,n,hd⟩:=hL
  cases (hc:c = .type "tuple")
  cases (hd:dt = .seq its n)
  refine callType_new F.called_enumerate (by decide) (F.typeCall_enumerate_1 _) (F.newCall_enumerate_1 _) (fun obj => F.args_object_init_2 obj _) F.entry_enumerate_new (meets_enumT l its n dct sl) ⟨hl,?_⟩
  have hz:(s.heap.push { cls:=.type "tuple_iterator",data:=.fields #[.ref l,.int 0 0] }).objs.size = s.heap.objs.size + 1:=Heap.size_push ..
  show _ /\ _
  rw [hz]
  have he:IsEnum ((s.heap.push { cls:=.type "tuple_iterator",data:=.fields #[.ref l,.int 0 0] }).push { cls:=.type "enumerate",data:=.fields #[.none,.bool false,.ref s.heap.objs.size,rawInt 0,.none,.none] }) (s.heap.objs.size + 1) s.heap.objs.size 0 .none:=by
    have:=Heap.get?_push_size (s.heap.push { cls:=.type "tuple_iterator",data:=.fields #[.ref l,.int 0 0] }) (o:={ cls:=.type "enumerate",data:=.fields #[.none,.bool false,.ref s.heap.objs.size,rawInt 0,.none,.none] }) rfl
    rw [hz] at this
    exact this
  exact ⟨⟨_,he,rfl⟩,q _ he ⟨_,Heap.get?_push_of_some _ (Heap.get?_push_size _ rfl),rfl,rfl⟩ fun b o x => Heap.get?_push_of_some _ (Heap.get?_push_of_some _ x)⟩
end
noncomputable def IteT (K:PySem.W.Frag) (a:Addr):It :=
  ⟨fun i H => ∃ xs x,SqT K H a xs /\ xs[i]? = some x,fun i H v H' => ∃ T x,v = .ref T /\ H T = none /\ H' = upd H T (.tup [.int i,x]) /\ ∀ xs,SqT K H a xs -> xs[i]? = some x,fun i H => ∃ xs,SqT K H a xs /\ xs.length = i⟩
theorem turn_enumT {P:Program} {w:World} {K:PySem.W.Frag} {elts:List Expr} {k1:Nat} {tpos:Pos} (a e it:Addr) (hei:e ≠ it) :
    Turn P w K (.Tuple elts k1 tpos) (IteT K a) [e,it] e (fun i h => (∃ old,IsEnum h e it i old) /\ h.IsTupleIter it a i) where
  mem:=by simp
  obj:=fun i h st b hb => by
    obtain ⟨⟨old,he⟩,o,e1,c,d⟩:=st
    rcases List.mem_cons.mp hb with rfl | hb
    . exact ⟨_,he,fun v z => nomatch z⟩
    . have hb:b = it:=by simpa using hb
      subst hb
      exact ⟨o,e1,fun v z => by rw [d] at z; cases z⟩
  keep:=fun i h h' ⟨⟨old,he⟩,st⟩ k => ⟨⟨old,k e (by simp) _ he⟩,st.at fun o q => k it (by simp) o q⟩
  item:=by
    intro X hP hw hK hc i pins s σ H E I hf st hg
    subst hP hw hK
    obtain ⟨xs,x,hq,hx⟩:=hg
    obtain ⟨its,rv,p,hz⟩:=I.tuple hq
    obtain ⟨u,hu,ru⟩:=rv.get hx
    obtain ⟨⟨old,he⟩,hit⟩:=st
    obtain ⟨f0,f1,f2,f3,f4,f5⟩:=hf e (by simp)
    obtain ⟨g0,g1,g2,g3,g4,g5⟩:=hf it (by simp)
    have hai:a ≠ it:=fun z => by
      obtain ⟨o1,q1,c1,_⟩:=id hit
      obtain ⟨o2,q2,c2,_⟩:=id p
      rw [z,q1] at q2
      cases q2
      rw [c1] at c2
      injection c2 with c2
      exact absurd c2 (by decide)
    have hea:e ≠ a:=fun z => by
      obtain ⟨o2,q2,c2,_⟩:=id p
      rw [← z] at q2
      have he':s.heap.get? e = some _:=he
      rw [he'] at q2
      cases q2
      injection c2 with c2
      exact absurd c2 (by decide)
    refine wpAny_pyNext_enum_itemD (draws_tup (show X.A.in1.handled = none from I.ok.hd hc) it a hai its.toArray) he ⟨hit,p⟩ (by have:=(List.getElem?_eq_some_iff.mp hu).1; simpa using this) hei (by simp [hei,hea]) fun u' h' tk hu' ho hit' hT hsz hk => ?_
    have:u = u':=by simpa [hu] using hu'
    subst this
    replace hit':=hit'.1
    refine ⟨_,rfl,wpAny_letOwnedTupleGo_enum (s:={ s with heap:=h',toks:=tk + 1 }) ho fun h2 he2 sb => ?_⟩
    have hTn:H s.heap.objs.size = none:=I.hok.fresh (Nat.le_refl _)
    have hTe:s.heap.objs.size ≠ e:=Nat.ne_of_gt (Heap.lt_size he)
    have hTi:s.heap.objs.size ≠ it:=by obtain ⟨_,q,_⟩:=hit; exact Nat.ne_of_gt (Heap.lt_size q)
    have k2:∀ b o,b ≠ e -> b ≠ it -> s.heap.get? b = some o -> h2.get? b = some o:=fun b o n1 n2 q => (sb.2 b n1).trans (hk b o n1 n2 q)
    -- first the iterators turn,then the tuple is tracked
    have I1:Inv X pins σ H { s with heap:=h2,toks:=tk + 1 }:=by
      refine I.step (g':=s.gens) (d':=s.drawn) (t':=tk + 1) (ch:=[e,it]) (fun b hb => ?_) (fun b o _ _ hb q _ => k2 b o (fun z => hb (by simp [z])) (fun z => hb (by simp [z])) q) (fun b o _ _ hb q _ => ⟨o.slots,k2 b o (fun z => hb (by simp [z])) (fun z => hb (by simp [z])) q⟩)
        (fun b o _ _ q => q) (fun b o hb q => ⟨o,k2 b o (fun z => hb (by simp [z])) (fun z => hb (by simp [z])) q⟩) (fun _ _ q => q) (fun _ _ _ q => q) (fun _ ps q => ⟨#[],by simpa using q⟩) (fun m hm => ?_) ?_ I.bare
      . rcases List.mem_cons.mp hb with rfl | hb
        . exact ⟨f3,f1,f4,f5⟩
        . have hb:b = it:=by simpa using hb
          subst hb
          exact ⟨g3,g1,g4,g5⟩
      . obtain ⟨o,es,ep,q,r⟩:=hm
        exact ⟨o,es,ep,k2 _ _ (Ne.symm f1) (Ne.symm g1) q,r⟩
      . intro b u q
        refine (I.hok b u q).stay (fun c v hc r => k2 c v ?_ ?_ r) (fun _ q => q) fun _ _ q => q
        . rintro rfl
          rcases hc with rfl | hc
          . rw [f0] at q; cases q
          . rw [f0] at hc; cases hc
        . rintro rfl
          rcases hc with rfl | hc
          . rw [g0] at q; cases q
          . rw [g0] at hc; cases hc
    have hT2:h2.get? s.heap.objs.size = some { cls:=.type "tuple",data:=.seq #[.int i tk,u] }:=(sb.2 _ hTe).trans hT
    have I2:Inv X pins σ (upd H s.heap.objs.size (.tup [.int i,x])) { s with heap:=h2,toks:=tk + 1 }:=by
      have nn:∀ {b:Addr},b < s.heap.objs.size -> H b = none -> upd H s.heap.objs.size (.tup [.int i,x]) b = none:=fun {b} hb e => by rw [upd_ne (Nat.ne_of_lt hb)]; exact e
      have old:∀ {b:Addr} {o:HO},H b = some o -> upd H s.heap.objs.size (.tup [.int i,x]) b = some o:=fun {b o} e => by rw [upd_ne (ne_of_none e hTn)]; exact e
      refine ⟨I1.ok,I1.os,I1.bare,⟨I1.base.keep,I1.base.slot,fun b o q n hx => nn ?_ (I1.base.free b o q n hx),I1.base.there,fun b ys q => old (I1.base.tups b ys q),fun b o v q => old (I1.base.frzs b o v q),fun b ps q => ?_⟩,I1.loc,I1.cell,nn I.lt I1.free,fun y c q => nn ?_ (I1.freeC y c q),fun p hp => ?_,fun b o q => ?_,I1.len⟩
      . exact Nat.lt_of_lt_of_le (Heap.lt_size q) I.sz
      . obtain ⟨more,z⟩:=I1.base.tbls b ps q
        exact ⟨more,old z⟩
      . obtain ⟨v,z⟩:=I.cell y c q
        exact z.lt
      . obtain ⟨z1,z2,z3⟩:=I1.pin p hp
        exact ⟨z1,nn (Heap.lt_size (I.pin p hp).1) z2,z3⟩
      . by_cases hb:b = s.heap.objs.size
        . subst hb
          rw [upd_same] at q
          cases q
          exact ⟨by rw [sizeLine_eq]; simp,[.int i tk,u],.cons ⟨_,rfl⟩ (.cons ru .nil),_,hT2,rfl,_,rfl⟩
        . rw [upd_ne hb] at q
          exact (I1.hok b o q).stay (fun _ _ _ z => z) (fun c z => old z) fun c ys z => old z
    exact ⟨.ref s.heap.objs.size,_,I2,rfl,⟨s.heap.objs.size,x,rfl,hTn,rfl,fun ys hy => by rw [I.tuple_inj hy hq]; exact hx⟩,⟨⟨u,by simpa using he2⟩,hit'.at fun o q => (sb.2 it (Ne.symm hei)).trans q⟩,fun b hb => by
      rcases List.mem_cons.mp hb with rfl | hb
      . rw [upd_ne (Ne.symm hTe)]; exact f0
      . have hb:b = it:=by simpa using hb
        subst hb
        rw [upd_ne (Ne.symm hTi)]; exact g0⟩
  done:=by
    intro X hP hw hK hc i pins s σ H E I hf st hg
    subst hP hw hK
    obtain ⟨xs,hq,hx⟩:=hg
    obtain ⟨its,rv,p,hz⟩:=I.tuple hq
    obtain ⟨⟨old,he⟩,hit⟩:=st
    obtain ⟨g0,g1,g2,g3,g4,g5⟩:=hf it (by simp)
    have hl:=rv.length
    have hai:a ≠ it:=fun z => by
      obtain ⟨o1,q1,c1,_⟩:=id hit
      obtain ⟨o2,q2,c2,_⟩:=id p
      rw [z,q1] at q2
      cases q2
      rw [c1] at c2
      injection c2 with c2
      exact absurd c2 (by decide)
    have hsz:i = its.toArray.size:=by simp; omega
    exact wpAny_pyNext_enum_endD (draws_tup (show X.A.in1.handled = none from I.ok.hd hc) it a hai its.toArray) he (by rw [← hsz]; exact ⟨hit,p⟩) fun h' eb => ⟨rfl,I.turned (t':=s.toks) (fun b o hb e => eb b o hb e) g0 g1 g3 g4 g5⟩
  self:=fun _ _ _ _ _ ⟨⟨_,he⟩,_⟩ h => wpAny_pyIter_enum he h
section
variable {X:Cx} {pins:List (Addr×Obj)} {σ:St} {H:Hp} {s:Shared} {tg:Expr}
noncomputable def iEnumT (K:PySem.W.Frag) (tl:TA):TI:=fun σ H R => tl σ H fun vs H1 => ∃ a,vs = [.ref a] /\ (∃ xs,SqT K H1 a xs) /\ R (IteT K a) H1
theorem pi_enumT {l:Expr} {tl:TA} {elts:List Expr} {k1:Nat} {tpos p pos:Pos} (hg:Gl X "enumerate") (hm:X.mg "enumerate" = none) (ha:PA X [l] tl) (hs:starEach [l] X.env = [(false,eval l X.env)]:=by rfl) :
    PI X (.Tuple elts k1 tpos) (.Call (.Name "enumerate" p) [l] [] pos) (iEnumT X.K tl):=by
  intro pins s σ H R I h
  refine Call_ (ld_blt I hg hm bt_enumerate (PyProof.Rows.callWith_type1 (thn (ha pos pins s σ H _ I h) fun us s1 ⟨vs,H1,I1,r1,q1⟩ => ?_) hs rfl))
  obtain ⟨a,e,⟨xs,hq⟩,q⟩:=q1
  subst e
  cases r1 with
  | cons r rr =>
    cases rr
    cases r
    obtain ⟨its,rv,p,hz⟩:=I1.tuple hq
    refine call_enumT p fun h' he hit kp => ?_
    refine wpAny_pyIter_enum he ?_
    have I2:Inv X pins σ H1 { s1 with heap:=h' }:=I1.kept (t':=s1.toks) kp
    refine ⟨_,[s1.heap.objs.size + 1,s1.heap.objs.size],_,_,H1,rfl,I2,turn_enumT a _ _ (Nat.ne_of_gt (Nat.lt_succ_self _)),⟨⟨_,he⟩,hit⟩,fun b hb => ?_,q⟩
    rcases List.mem_cons.mp hb with rfl | hb
    . exact I1.fpOk (Nat.le_succ _) (I1.hok.fresh (Nat.le_succ _))
    . have hb:b = s1.heap.objs.size:=by simpa using hb
      subst hb
      exact I1.fpOk (Nat.le_refl _) (I1.hok.fresh (Nat.le_refl _))
end
section
variable {te:TE} {Q:VK} {H:Hp} {σ:St} {caps:St} {K:PySem.W.Frag}
theorem len2T {us:St} (h:us.length = 2):∃ o p,us = [o,p]:=by
  cases us with
  | nil => cases h
  | cons o us => cases us with
    | nil => cases h
    | cons p us => cases us with
      | nil => exact ⟨o,p,rfl⟩
      | cons q us => cases h
theorem r_compEK {a:Addr} {xs:List V} (hn:xs.length <= 1000) (hT:H a = some (.tup xs)) (Pv:Addr -> Nat -> List V -> Hp -> Prop) (h0:∀ acc,H acc = none -> Pv acc 0 [] (upd H acc (.lst []))) (hl':∀ acc i ys H1,H acc = none -> i <= xs.length -> Pv acc i ys H1 -> TK H H1)
    (hs:∀ acc i ys H1 x T,H acc = none -> xs[i]? = some x -> ys.length = i -> H1 acc = some (.lst ys) -> H1 T = none -> Pv acc i ys H1 -> te (some (.int i) :: some x :: caps) (upd H1 T (.tup [.int i,x])) (cNext xs.length acc (Pv acc) ys i))
    (hd:∀ acc ys H1,H acc = none -> H1 acc = some (.lst ys) -> ys.length = xs.length -> Pv acc xs.length ys H1 -> Q (.ref acc) H1):compK te none (gTup K 2 (gCons (gName 0) (gCons (gName 1) gNil))) (List.replicate 2 none) caps Q (IteT K a) H:=by
  intro acc hacc
  refine ⟨cW xs.length acc (Pv acc),⟨xs.length,by simp,Nat.zero_le _,rfl,upd_same,h0 acc hacc⟩,fun i m ys H1 hW => ?_⟩
  obtain ⟨rfl,hi,hl,ha,p⟩:=hW
  have q:SqT K H1 a xs:=SqT.of (hl' acc i ys H1 hacc hi p _ _ hT)
  refine ⟨ha,?_⟩
  rcases Nat.lt_or_ge i xs.length with hlt | hge
  . refine .inr ⟨small1000 (by omega),⟨xs,xs[i],q,by simp [hlt]⟩,fun us v H' hu z => ?_⟩
    obtain ⟨T,x,rfl,hT,rfl,z⟩:=z
    obtain ⟨o1,o2,rfl⟩:=len2T hu
    exact r_gtup2 upd_same ⟨_,[x],rfl,x,[],rfl,rfl,⟨[some (.int i),some x],rfl,rfl⟩,hs acc i ys H1 x T hacc (z xs q) hl ha hT p⟩
  . cases (Nat.le_antisymm hi hge:i = xs.length)
    exact .inl ⟨⟨xs,q,rfl⟩,hd acc ys H1 hacc ha hl p⟩
theorem r_iEnumT {tl:TA} {R:It -> Hp -> Prop} (k:tl σ H fun vs H1 => ∃ a,vs = [.ref a] /\ (∃ xs,SqT K H1 a xs) /\ R (IteT K a) H1):iEnumT K tl σ H R:=k
theorem e_T {a:Addr} {xs:List V} {R:It -> Hp -> Prop} (h:H a = some (.tup xs)) (k:R (IteT K a) H):∃ a',[V.ref a] = [.ref a'] /\ (∃ xs,SqT K H a' xs) /\ R (IteT K a') H:=⟨a,rfl,⟨xs,SqT.of h⟩,k⟩
end
theorem cut_init {xs:List V} (h:1 <= xs.length):cutV xs none (some (-1)) = xs.dropLast:=by
  unfold cutV
  have e1:HT.sIx xs.length 0 none = 0:=rfl
  have e2:HT.sIx xs.length xs.length (some (-1)) = xs.length - 1:=by
    unfold HT.sIx
    simp
    omega
  rw [e1,e2,List.drop_zero,Nat.sub_zero,List.dropLast_eq_take]
theorem cut_one {xs:List V} (h:1 <= xs.length):cutV xs none (some 1) = xs.take 1:=by
  unfold cutV
  have e1:HT.sIx xs.length 0 none = 0:=rfl
  have e2:HT.sIx xs.length xs.length (some 1) = 1:=by
    unfold HT.sIx
    simp
    omega
  rw [e1,e2,List.drop_zero,Nat.sub_zero]
theorem cut_tail {xs:List V} (h:1 <= xs.length):cutV xs (some 1) none = xs.drop 1:=by
  unfold cutV
  have e1:HT.sIx xs.length xs.length none = xs.length:=rfl
  have e2:HT.sIx xs.length 0 (some 1) = 1:=by
    unfold HT.sIx
    simp
    omega
  rw [e1,e2,List.take_of_length_le (by rw [List.length_drop]; omega)]
theorem pg_tupc {X:Cx} {scope:Scope} {caps:List (Str×Addr)} {N:List Str} {C:Addr} {s0:Shared} {H0:Hp} {ex:List Addr} {es:List Expr} {k:Nat} {t:TGs} {n:Nat} {pos:Pos} (hc:(cxComp X scope caps N C s0 H0 ex).calm = true) (h:PGs (cxComp X scope caps N C s0 H0 ex) es t)
    (hn:(assignEach es (cxComp X scope caps N C s0 H0 ex).env).length = n:=by rfl) (hst:(assignEach es (cxComp X scope caps N C s0 H0 ex).env).findIdx? (·.1) = none:=by rfl):PG (cxComp X scope caps N C s0 H0 ex) (.Tuple es k pos) (gTup X.K n t):=pg_tup hc h hn hst
section
variable {K:PySem.W.Frag} {H:Hp} {Q:VK} {p:Addr} {xs:List V}
theorem s_init (h:H p = some (.tup xs)) (hl:1 <= xs.length) (k:∀ l,H l = none -> Q (.ref l) (upd H l (.tup xs.dropLast))):rSlA K (.ref p) none (some (-1)) H Q:=by
  refine s_tup h ?_ (by rw [cut_init hl]; exact k)
  have e2:HT.sIx xs.length xs.length (some (-1)) = xs.length - 1:=by
    unfold HT.sIx
    simp
    omega
  omega
theorem s_one (h:H p = some (.tup xs)) (hl:2 <= xs.length) (k:∀ l,H l = none -> Q (.ref l) (upd H l (.tup (xs.take 1)))):rSlA K (.ref p) none (some 1) H Q:=by
  refine s_tup h ?_ (by rw [cut_one (by omega)]; exact k)
  have e2:HT.sIx xs.length xs.length (some 1) = 1:=by
    unfold HT.sIx
    simp
    omega
  omega
theorem s_tail (h:H p = some (.tup xs)) (hl:1 <= xs.length) (k:∀ l,H l = none -> Q (.ref l) (upd H l (.tup (xs.drop 1)))):rSlA K (.ref p) (some 1) none H Q:=by
  refine s_tup h ?_ (by rw [cut_tail hl]; exact k)
  have e2:HT.sIx xs.length 0 (some 1) = 1:=by
    unfold HT.sIx
    simp
    omega
  omega
end
theorem RunQ.mk3 {H:Hp} {p:Addr} {a b:Str} {u:V} {t:Rat} (h:H p = some (.tup [.str a,.str b,u])) (f:FrQ H u t):RunQ H (.ref p) (Sum.inr a,Sum.inr b,t):=⟨p,u,rfl,h,f⟩
theorem kn_take (n:List TRun) (i:Nat) {r:TRun} (h:n[i]? = some r):kn (n.take (i + 1)) = kn (n.take i) ++ [(Sum.inr r.1,Sum.inr r.2.1,r.2.2)]:=by
  unfold kn
  rw [List.take_add_one,h,List.map_append]
  rfl
noncomputable def okR (r:TRun):Prop:=PostS r.1 /\ PostS r.2.1 /\ TimR r.2.2
theorem is_run73 {K:PySem.W.Frag} {H:Hp} {v:V} {r:TRun} (h:RunQ H v (Sum.inr r.1,Sum.inr r.2.1,r.2.2)) (t:okR r):IsRunQ K H v (decide (r.1 ≠ r.2.1)):=by
  obtain ⟨p,u,rfl,hp,pt,rfl,hpt⟩:=h
  obtain ⟨h1,h2,h3,h4,h5⟩:=t
  by_cases e:r.1 = r.2.1
  . rw [decide_eq_false (fun z => z e)]
    refine IsRunQ.same (s:=r.1) (t:=.ref pt) ?_ h1.q
    rw [hp]
    show some (HO.tup [.str r.1,.str r.2.1,.ref pt]) = _
    rw [← e]
  . rw [decide_eq_true e]
    have hd:=r.2.2.den_pos
    have h30:(0:Int) < r.2.2.num:=by
      have:=Rat.num_nonneg.mpr (Rat.le_of_lt h3)
      have n0:r.2.2.num ≠ 0:=fun z => Rat.ne_of_gt h3 (Rat.num_eq_zero.mp z)
      omega
    have m1:Sm 8000 r.2.2.num:=(Sm.of (n:=64) (by omega) (by omega)).mono (by decide)
    have m2:Sm 8000 (r.2.2.den:Int):=(Sm.of (n:=64) (by omega) (by omega)).mono (by decide)
    have:=IsRunQ.run (K:=K) hp h1.q h2.q e hpt (fr_frV _) m1 m2
    rw [decide_eq_true h30] at this
    exact this
theorem runs73 {K:PySem.W.Frag} {H:Hp}:∀ {n:List TRun} {vs:List V},Paired (RunQ H) vs (kn n) -> (∀ r ∈ n,okR r) -> Paired (IsRunQ K H) vs (n.map fun r => decide (r.1 ≠ r.2.1))
  | [],_,.nil,_ => .nil
  | r :: n,_,.cons h t,hr => .cons (is_run73 h (hr r (by simp))) (runs73 t fun x hx => hr x (List.mem_cons_of_mem _ hx))
noncomputable def szP:PRow -> Nat
  | .run _ _ _ => 2
  | .path _ _ ps => ps.length
noncomputable def okQ (r:PRow):Prop:=(∀ x ∈ r.runs,okR x) /\ 2 <= szP r /\ szP r <= 190
theorem along_ok {t:Rat} (ht:TimR t):∀ {ps:List Str},(∀ s ∈ ps,PostS s) -> ∀ x ∈ along t ps,okR x
  | [],_,_,h => nomatch h
  | [_],_,_,h => nomatch h
  | a :: b :: r,hp,x,h => by
    rcases List.mem_cons.mp h with rfl | h
    . exact ⟨hp a (by simp),hp b (by simp),ht⟩
    . exact along_ok ht (ps:=b :: r) (fun s hs => hp s (List.mem_cons_of_mem _ hs)) x h
theorem okP.q {r:PRow} (h:okP r):okQ r:=by
  cases r with
  | run a b t =>
    refine ⟨fun x hx => ?_,show 2 <= 2 by decide,show 2 <= 190 by decide⟩
    rw [List.mem_singleton.mp hx]
    exact h
  | path k t ps =>
    obtain ⟨h1,h2,h3,h4,_⟩:=h
    refine ⟨?_,h3,Nat.le_trans h4 (by decide)⟩
    cases k with
    | row => exact along_ok h2 h1
    | star =>
      intro x hx
      obtain ⟨y,hy,rfl⟩:=List.mem_map.mp hx
      cases ps with
      | nil => exact absurd h3 (by decide)
      | cons a r => exact ⟨h1 a (by simp),h1 y (List.mem_cons_of_mem _ hy),h2⟩
    | ring => exact along_ok h2 fun s hs => (List.mem_append.mp hs).elim (h1 s) fun h => h1 s (List.mem_of_mem_take h)
noncomputable def cntR (rs:List PRow):Nat:=(rs.map fun r => r.runs.length).sum
noncomputable def allR (rs:List PRow):List TRun:=(rs.map PRow.runs).flatten
theorem cnt_all (rs:List PRow):cntR rs = (allR rs).length:=by
  unfold cntR allR
  rw [List.length_flatten,List.map_map]
  rfl
theorem cnt_take {rs:List PRow} {i:Nat} {r:PRow} (h:rs[i]? = some r):cntR (rs.take (i + 1)) = cntR (rs.take i) + r.runs.length:=by
  unfold cntR
  rw [List.take_add_one,h]
  simp
theorem all_take {rs:List PRow} {i:Nat} {r:PRow} (h:rs[i]? = some r):allR (rs.take (i + 1)) = allR (rs.take i) ++ r.runs:=by
  unfold allR
  rw [List.take_add_one,h]
  simp
theorem all_ok {rs:List PRow} (h:∀ r ∈ rs,okQ r):∀ x ∈ allR rs,okR x:=fun x hx => by
  obtain ⟨l,hl,hx⟩:=List.mem_flatten.mp hx
  obtain ⟨r,hr,rfl⟩:=List.mem_map.mp hl
  exact (h r hr).1 x hx
theorem cnt_le {rs:List PRow} (i:Nat):cntR (rs.take i) <= cntR rs:=by
  have e:rs = rs.take i ++ rs.drop i:=(List.take_append_drop i rs).symm
  unfold cntR
  conv => rhs; rw [e]
  rw [List.map_append,List.sum_append]
  exact Nat.le_add_right _ _
theorem cut_n {xs:List V} (n:Nat):cutV xs none (some (n:Int)) = xs.take n:=by
  unfold cutV
  have e1:HT.sIx xs.length 0 none = 0:=rfl
  have e2:HT.sIx xs.length xs.length (some (n:Int)) = min n xs.length:=by
    unfold HT.sIx
    simp
    omega
  rw [e1,e2,List.drop_zero,Nat.sub_zero]
  rcases Nat.le_total n xs.length with h | h
  . rw [Nat.min_eq_left h]
  . rw [Nat.min_eq_right h,List.take_length,List.take_of_length_le h]
noncomputable def RowsQ (H:Hp) (l:Addr) (rs:List PRow):Prop:=∃ xs,H l = some (.lst xs) /\ Paired (PRowQ H) xs rs
theorem RowsQ.sm {H G:Hp} {l:Addr} {rs:List PRow} (h:RowsQ H l rs) (s:Same H G):RowsQ G l rs:=let ⟨xs,a,b⟩:=h; ⟨xs,s _ _ a,Pd.imp b fun _ _ f => f.tk s.tk⟩
theorem star_at {ps:List Str} {i:Nat} {t:Rat} {c b:Str} (ec:ps[0]? = some c) (eb:ps[i + 1]? = some b):(ps.tail.map fun x => (ps.headD "",x,t))[i]? = some (c,b,t):=by
  cases ps with
  | nil => cases ec
  | cons x r =>
    cases ec
    rw [List.getElem?_map,show List.tail (_ :: r) = r from rfl,show r[i]? = some b from eb]
    rfl
theorem ring_runs {ps:List Str} {t:Rat} {y c:Str} (ey:ps.getLast? = some y) (ec:ps[0]? = some c):along t (ps ++ ps.take 1) = along t ps ++ [(y,c,t)]:=by
  have e1:ps.take 1 = [c]:=by
    cases ps with
    | nil => cases ec
    | cons x r => cases ec; rfl
  obtain ⟨l,rfl⟩:=List.getLast?_eq_some_iff.mp ey
  rw [e1,List.append_assoc]
  exact along_snoc t y c l
theorem at_last {ps:List Str} {y:Str} (ey:ps.getLast? = some y):atI (ps.map V.str) (-1) = some (.str y):=by
  obtain ⟨l,rfl⟩:=List.getLast?_eq_some_iff.mp ey
  have e:ixN (l.length + 1) (-1) = some l.length:=by
    unfold ixN
    simp
    try omega
  unfold atI
  simp [e]
theorem runs_len {r:PRow} (h:2 <= szP r /\ szP r <= 190):r.runs.length <= 200:=by
  cases r with
  | run a b t => exact show 1 <= 200 by decide
  | path k t ps =>
    have h':2 <= ps.length /\ ps.length <= 190:=h
    cases k with
    | row =>
      rw [show (PRow.path .row t ps).runs = along t ps from rfl,along_len]
      omega
    | star =>
      rw [show (PRow.path .star t ps).runs = ps.tail.map fun x => (ps.headD "",x,t) from rfl,List.length_map,List.length_tail]
      omega
    | ring =>
      rw [show (PRow.path .ring t ps).runs = along t (ps ++ ps.take 1) from rfl,along_len,List.length_append,List.length_take]
      omega
theorem take_app121 {α:Type} (x y:List α):(x ++ y).take 121 = (x.take 121 ++ y).take 121:=by
  rw [List.take_append,List.take_append,List.take_take,List.length_take]
  simp
  congr 1
  omega
theorem Pd.tak {α β:Type} {R:α -> β -> Prop}:∀ {xs:List α} {ys:List β},Paired R xs ys -> ∀ n:Nat,Paired R (xs.take n) (ys.take n)
  | _,_,.nil,n => by simp; exact .nil
  | _,_,.cons h t,0 => .nil
  | _,_,.cons h t,n + 1 => .cons h (Pd.tak t n)
theorem e_runE {H:Hp} {Q:VK} {l p:Addr} {n:List TRun} (h1:LQ RunQ H l (kn n)) (h2:H p = some (.lst [])) (k:Q (.bl (decide (n = []))) H):rEqA (.ref l) (.ref p) H Q:=by
  obtain ⟨v1,a1,p1⟩:=h1
  refine e_lst (ds:=n.map dRun) (es:=[]) ⟨l,_,rfl,a1,den_runs p1⟩ ⟨p,_,rfl,h2,rfl⟩ (Nat.le_trans (dep_runs n) (by decide)) ?_
  cases n with
  | nil => rw [decide_eq_true rfl] at k; exact k
  | cons r rs => rw [decide_eq_false (List.cons_ne_nil _ _)] at k; exact k
theorem n_runE {H:Hp} {Q:VK} {l p:Addr} {n:List TRun} (h1:LQ RunQ H l (kn n)) (h2:H p = some (.lst [])) (k:Q (.bl (!decide (n = []))) H):rNeA (.ref l) (.ref p) H Q:=by
  obtain ⟨v1,a1,p1⟩:=h1
  refine n_lst (ds:=n.map dRun) (es:=[]) ⟨l,_,rfl,a1,den_runs p1⟩ ⟨p,_,rfl,h2,rfl⟩ (Nat.le_trans (dep_runs n) (by decide)) ?_
  cases n with
  | nil => rw [decide_eq_true rfl] at k; exact k
  | cons r rs => rw [decide_eq_false (List.cons_ne_nil _ _)] at k; exact k
theorem PostS.few {s:Str} (h:PostS s) {n:Nat} (e:n + 1 = (Txt.split s ⟨#[46]⟩).length):n <= 3:=by
  have:=h.1
  rw [post_split,Bool.and_eq_true,decide_eq_true_iff] at this
  omega
theorem r_whileO {c:TT} {tb:TS} {D:Ends} {σ:St} {H:Hp} (Pv:Nat -> St -> Hp -> Prop) {m0:Nat} (h0:Pv m0 σ H)
    (hs:∀ m σ H,Pv m σ H -> c σ H fun b H1 => if b = true then ∃ N:St -> Hp -> Prop,(∀ σ' H',N σ' H' -> ∃ m',m' < m /\ Pv m' σ' H') /\ tb { D with nx:=N,ct:=N,bk:=D.nx } σ H1 else D.nx σ H1):tWhile c tb D σ H:=⟨Pv,⟨_,h0⟩,hs⟩
theorem ne7:∀ l:Nat,l < 140 -> Int.gcd (7 * (l:Int) + 1) 7 = 1:=by decide +kernel
theorem FrQ.of2 {H:Hp} {p:Addr} {f g:Int} (hg:0 < g) (hc:Int.gcd f g = 1) (h:H p = some (.tup [.int f,.int g])):FrQ H (.ref p) (Rat.divInt f g):=by
  obtain ⟨e1,e2⟩:=rat_of (t:=f) (b:=g) (f:=f) (g:=g) (by omega) hg hc rfl
  exact ⟨p,rfl,by rw [h,e1,e2]⟩
theorem TimR.of2 {f g:Int} (hf:0 < f) (hf':f <= 999999999999) (hg:0 < g) (hg':g <= 999999999999) (hc:Int.gcd f g = 1):TimR (Rat.divInt f g):=by
  obtain ⟨e1,e2⟩:=rat_of (t:=f) (b:=g) (f:=f) (g:=g) (by omega) hg hc rfl
  refine ⟨?_,by rw [e1]; exact hf',?_⟩
  . have h1:0 < (Rat.divInt f g).num:=by rw [e1]; exact hf
    have:=Rat.num_nonneg.mp (Int.le_of_lt h1)
    exact Rat.lt_of_le_of_ne this fun z => by rw [← z] at h1; exact absurd h1 (by decide)
  . omega
theorem PRowQ.sm {H G:Hp} {v:V} {r:PRow} (h:PRowQ H v r) (s:Same H G):PRowQ G v r:=h.tk s.tk
theorem Pd.drp {α β:Type} {R:α -> β -> Prop}:∀ {xs:List α} {ys:List β},Paired R xs ys -> ∀ n:Nat,Paired R (xs.drop n) (ys.drop n)
  | _,_,.nil,n => by simp; exact .nil
  | _,_,.cons h t,0 => .cons h t
  | _,_,.cons h t,n + 1 => Pd.drp t n
noncomputable def dRow:PRow -> Dt
  | .run a b t => .tup [.str "run",.str a,.str b,dFr t]
  | .path k t ps => .tup [.str k.nm,dFr t,.tup (ps.map Dt.str)]
theorem den_ps {G:Hp}:∀ ys:List Str,DenL G (ys.map Dt.str) (ys.map V.str)
  | [] => rfl
  | y :: r => ⟨_,_,rfl,rfl,den_ps r⟩
theorem PRowQ.den {H:Hp} {v:V}:∀ {r:PRow},PRowQ H v r -> Den H (dRow r) v
  | .run a b t,⟨p,u,e,h,f⟩ => ⟨p,_,e,h,_,_,rfl,rfl,_,_,rfl,rfl,_,_,rfl,rfl,_,_,rfl,f.den,rfl⟩
  | .path k t ps,⟨p,u,z,e,h,f,g⟩ => ⟨p,_,e,h,_,_,rfl,rfl,_,_,rfl,f.den,_,_,rfl,⟨z,_,rfl,g,den_ps ps⟩,rfl⟩
theorem dep_ps:∀ ps:List Str,depL (ps.map Dt.str) <= 1
  | [] => by simp [depL]
  | p :: r => by
    have:=dep_ps r
    rw [List.map_cons]
    simp only [depL,dep]
    omega
theorem dep_row:∀ r:PRow,dep (dRow r) <= 5
  | .run _ _ _ => by simp [dep,depL,dRow,dFr]
  | .path _ _ ps => by
    have:=dep_ps ps
    simp only [dep,depL,dRow,dFr]
    omega
noncomputable def BadR (rs:List PRow):Prop:=allR rs = [] ∨ ∃ r ∈ allR rs,r.1 = r.2.1
noncomputable def DV (H0 H:Hp) (v:V) (rs:List PRow):Prop:=(120 < cntR rs /\ v = .str "many") ∨ (cntR rs <= 120 /\ BadR rs /\ v = .str "none") ∨ (cntR rs <= 120 /\ ¬ BadR rs /\ ∃ l,v = .ref l /\ H0 l = none /\ LQ RunQ H l (kn (allR rs)))
theorem DV.sm {H0 H G:Hp} {v:V} {rs:List PRow} (h:DV H0 H v rs) (s:Same H G):DV H0 G v rs:=by
  rcases h with h | h | ⟨h1,h2,l,h3,h4,h5⟩
  . exact .inl h
  . exact .inr (.inl h)
  . exact .inr (.inr ⟨h1,h2,l,h3,h4,h5.sm RunQ.tk s⟩)
theorem n_dv {H0 H0' H:Hp} {Q:VK} {v u:V} {rs:List PRow} (h:DV H0 H v rs) (h':DV H0' H u rs) (k:Q (.bl false) H):rNeA v u H Q:=by
  rcases h with ⟨h1,rfl⟩ | ⟨h1,h2,rfl⟩ | ⟨h1,h2,l,rfl,h4,h5⟩ <;> rcases h' with ⟨h1',rfl⟩ | ⟨h1',h2',rfl⟩ | ⟨h1',h2',l',rfl,h4',h5'⟩
  . exact n_str (by rw [show ((("many":Str)) == ("many":Str)) = true from by decide +kernel]; exact k)
  . omega
  . omega
  . omega
  . exact n_str (by rw [show ((("none":Str)) == ("none":Str)) = true from by decide +kernel]; exact k)
  . exact absurd h2 h2'
  . omega
  . exact absurd h2' h2
  . exact n_nets h5 h5' k
end L2
namespace Lw
open PySem L2
set_option compiler.extract_closed false
set_option hygiene false
local macro_rules | `(tactic| walk_at "st") => `(tactic| first
  | with_reducible assumption
  | ((with_reducible refine St3.new ?_ ?hn); (case hn => with_reducible assumption); walk_at "st"))
local macro_rules | `(tactic| walk_at "kp") => `(tactic| first
  | with_reducible assumption
  | with_reducible exact Kp.refl _ _
  | ((with_reducible refine Kp.trans ?_ (Kp.new ?hn)); (case hn => with_reducible assumption); walk_at "kp"))
local macro_rules | `(tactic| walk_at "sm") => `(tactic| first
  | with_reducible assumption
  | with_reducible exact Same.refl _
  | ((with_reducible refine Same.trans ?_ (Same.new ?hn)); (case hn => with_reducible assumption); walk_at "sm"))
local macro_rules | `(tactic| walk_at "hp") => `(tactic| first
  | with_reducible assumption
  | with_reducible exact upd_same
  | ((with_reducible refine upd_old ?hn ?_); (case hn => with_reducible assumption); walk_at "hp")
  | ((with_reducible refine upd_not ?hn ?_); (case hn => first | with_reducible assumption | (refine Ne.symm ?_; with_reducible assumption)); walk_at "hp")
  | ((with_reducible refine Same.app ?hn ?_); (case hn => with_reducible assumption); walk_at "hp")
  | ((with_reducible refine Kp.app ?hk ?hn ?_); (case hk => with_reducible assumption); (case hn => first | with_reducible assumption | (refine Ne.symm ?_; with_reducible assumption)); walk_at "hp"))
local macro_rules | `(tactic| walk_at "tk") => `(tactic| first
  | with_reducible exact TK.refl _
  | with_reducible assumption
  | ((with_reducible refine TK.trans ?_ (TK.new ?hn)); (case hn => with_reducible assumption); walk_at "tk")
  | ((with_reducible refine TK.trans ?_ (TK.lst ?hn)); (case hn => walk_at "hp"); walk_at "tk")
  | ((with_reducible refine TK.trans ?_ (TK.dic ?hn)); (case hn => walk_at "hp"); walk_at "tk")
  | ((with_reducible refine TK.trans ?_ (TK.frz ?hn)); (case hn => walk_at "hp"); walk_at "tk")
  | ((with_reducible refine TK.trans ?_ TK.melt); walk_at "tk")
  | ((with_reducible refine TK.trans ?_ (Same.tk ?hn)); (case hn => with_reducible assumption); walk_at "tk")
  | ((with_reducible refine TK.trans ?_ (St3.tk ?hs ?hn)); (case hn => with_reducible assumption); (case hs => with_reducible assumption); walk_at "tk"))
local macro_rules | `(tactic| walk_at "fq") => `(tactic| first
  | with_reducible assumption
  | ((with_reducible refine FrQ.tk ?fa ?ft); (case fa => with_reducible assumption); (case ft => walk_at "tk")))
local macro_rules | `(tactic| walk_at "go1") => `(tactic| first
  | with_reducible refine r_seq ?_
  | ((with_reducible refine r_nxD ?_); (with_reducible refine r_nx ?_))
  | ((with_reducible refine r_rtD ?_); (with_reducible refine r_rt ?_))
  | ((with_reducible refine r_bkD ?_); (with_reducible refine r_bk ?_))
  | ((with_reducible refine r_ctD ?_); (with_reducible refine r_ct ?_))
  | with_reducible refine r_asg ?_
  | with_reducible refine r_gname ?_
  | ((with_reducible refine' r_var ?rv ?_); case rv => exact rfl)
  | with_reducible refine r_c ?_
  | with_reducible refine r_op ?_
  | with_reducible refine r_un ?_
  | with_reducible refine r_I0 ?_
  | with_reducible refine r_U ?_
  | with_reducible refine a_int ?_
  | with_reducible refine r_sl ?_
  | with_reducible refine r_part ?_
  | with_reducible refine r_partK ?_
  | with_reducible refine r_nopart ?_
  | ((with_reducible refine r_mod ?mc ?_); case mc => first | decide | omega)
  | ((with_reducible refine r_modN ?mc ?_); case mc => first | decide | omega)
  | ((with_reducible refine r_mul ?mc ?_); case mc => first | exact CMulB.r (by decide) (by decide) | exact CMulB.l (by decide) (by decide) | exact CMulB.l (by omega) (by omega) | exact CMulB.r (by omega) (by omega))
  | ((with_reducible refine r_fdiv ?mc ?_); case mc => first | exact CDivB.of (by decide) (by decide) | exact CDivB.of (by omega) (by omega))
  | with_reducible refine r_pow18 ?_
  | with_reducible refine r_pow9 ?_
  | with_reducible refine r_test ?_
  | with_reducible refine r_tB ?_
  | with_reducible refine r_bK ?_
  | with_reducible refine r_ifS ?_
  | with_reducible refine r_if ?_
  | with_reducible refine r_and ?_
  | with_reducible refine r_or ?_
  | with_reducible refine r_not ?_
  | with_reducible refine r_andV ?_
  | with_reducible refine r_orV ?_
  | with_reducible refine r_notV ?_
  | with_reducible refine r_andK ?_
  | with_reducible refine r_orK ?_
  | with_reducible refine r_notK ?_
  | with_reducible refine r_ret ?_
  | with_reducible refine r_retN ?_
  | with_reducible refine r_next ?_
  | with_reducible refine r_drop ?_
  | with_reducible refine r_nil ?_
  | with_reducible refine r_cons ?_
  | with_reducible refine r_tup ?_
  | with_reducible refine r_lst ?_
  | with_reducible refine r_call ?_
  | with_reducible refine r_callD ?_
  | with_reducible refine r_callK ?_
  | with_reducible refine r_lrng ?_
  | with_reducible refine r_iTup ?_
  | with_reducible refine r_rngD ?_
  | with_reducible refine r_CB ?_
  | with_reducible refine r_dget ?_
  | with_reducible refine r_din ?_
  | with_reducible refine r_dnin ?_
  | with_reducible refine r_dput ?_
  | with_reducible refine r_dget1 ?_
  | with_reducible refine r_dget2 ?_
  | with_reducible refine r_dpop1 ?_
  | with_reducible refine r_bm ?_
  | with_reducible refine r_bm0 ?_
  | with_reducible refine r_bmS ?_
  | with_reducible refine r_gcons ?_
  | with_reducible refine r_gnil ?_
  | with_reducible refine r_iEnum ?_
  | with_reducible refine r_tru ?_
  | with_reducible refine r_orT ?_
  | with_reducible refine r_cont ?_
  | with_reducible refine r_break ?_
  | with_reducible refine r_isNr ?_
  | with_reducible refine r_isNn ?_
  | with_reducible refine r_isNs ?_
  | with_reducible refine r_isNi ?_
  | with_reducible refine r_isNk ?_
  | with_reducible refine r_noNr ?_
  | with_reducible refine r_noNn ?_
  | with_reducible refine r_noNs ?_
  | ((with_reducible refine' r_bmL ?ih ?_); (case ih => walk_at "hp"))
  | ((with_reducible refine' r_bmD ?ih ?_); (case ih => walk_at "hp"))
  | ((with_reducible refine' r_bm0D ?ih ?_); (case ih => walk_at "hp"))
  | ((with_reducible refine' r_gtup2 ?ih ?_); (case ih => walk_at "hp"))
  | ((with_reducible refine' r_gtup3 ?ih ?_); (case ih => walk_at "hp"))
  | ((with_reducible refine' r_gtup4 ?ih ?_); (case ih => walk_at "hp"))
  | with_reducible refine r_par ?_
  | with_reducible refine r_parK ?_
  | with_reducible refine e_int ?_
  | with_reducible refine n_int ?_
  | with_reducible refine e_bl ?_
  | with_reducible refine n_bl ?_
  | with_reducible refine e_str ?_
  | with_reducible refine n_str ?_
  | with_reducible refine r_isB ?_
  | with_reducible refine r_isNB ?_
  | with_reducible refine r_gsub ?_
  | with_reducible refine r_abs ?_
  | with_reducible refine r_max ?_
  | with_reducible refine r_min ?_
  | with_reducible refine r_intB ?_
  | with_reducible refine r_for ?_
  | with_reducible refine r_comp ?_
  | with_reducible refine r_rng1 ?_
  | with_reducible refine r_rng2 ?_
  | with_reducible refine r_iList ?_
  | ((with_reducible refine' r_lent ?ih ?_); (case ih => walk_at "hp"))
  | ((with_reducible refine' r_lenl ?ih ?_); (case ih => walk_at "hp"))
  | ((with_reducible refine' r_ixt ?ih ?ie ?_); (case ih => walk_at "hp"); (case ie => exact rfl))
  | ((with_reducible refine' r_ixl ?ih ?ie ?_); (case ih => walk_at "hp"); (case ie => exact rfl))
  | with_reducible refine r_dmN ?_
  | with_reducible refine r_dmR ?_
  | with_reducible refine i_sN ?_
  | with_reducible refine i_sS ?_
  | with_reducible refine i_T ?_
  | with_reducible refine i_F ?_
  | with_reducible refine i_flip ?_
  | ((with_reducible refine i_dT ?dc ?_); case dc => omega)
  | ((with_reducible refine i_dF ?dc ?_); case dc => omega))
local macro_rules | `(tactic| walk_at "go") => `(tactic| repeat (walk_at "go1"))
local macro_rules | `(tactic| walk_at "gos") => `(tactic| repeat ((fail_if_success (with_reducible refine r_seq ?_)); walk_at "go1"))
set_option hygiene true
local macro_rules | `(tactic| walk_at "go1") => `(tactic| first
  | with_reducible refine r_try ?_
  | with_reducible refine r_xdrop ?_
  | with_reducible refine r_xset ?_
  | with_reducible refine r_xret ?_
  | with_reducible refine r_callX ?_
  | with_reducible refine r_callXD ?_
  | with_reducible refine r_callH ?_
  | with_reducible refine r_raise ?_
  | with_reducible refine r_rng1H ?_)
theorem el_n {P:List Value -> Prop} (h:P []):∀ us:List Value,us.length = 0 -> P us:=fun us e => (List.length_eq_zero_iff.mp e).symm ▸ h
theorem el_s {n:Nat} {P:List Value -> Prop} (h:∀ a us,us.length = n -> P (a :: us)):∀ us:List Value,us.length = n + 1 -> P us:=fun us => List.casesOn (motive:=fun us => us.length = n + 1 -> P us) us (fun e => absurd e (Nat.succ_ne_zero n).symm) fun a us e => h a us (Nat.succ.inj e)
theorem el_1 {P:List Value -> Prop} (h:∀ a0,P [a0]):∀ us:List Value,us.length = 1 -> P us:=el_s fun a0 => el_n (h a0)
theorem el_2 {P:List Value -> Prop} (h:∀ a0 a1,P [a0,a1]):∀ us:List Value,us.length = 2 -> P us:=el_s fun a0 => el_s fun a1 => el_n (h a0 a1)
theorem el_3 {P:List Value -> Prop} (h:∀ a0 a1 a2,P [a0,a1,a2]):∀ us:List Value,us.length = 3 -> P us:=el_s fun a0 => el_s fun a1 => el_s fun a2 => el_n (h a0 a1 a2)
noncomputable def top (i:Nat):Stmt:=PySem.Challenge.pw_tilefall_k73_rows_opened.main.body.getD i (.Pass ⟨0,0,0,0⟩)
local macro_rules | `(tactic| walk_at "go1") => `(tactic| first
  | with_reducible refine r_chain ?_
  | with_reducible refine r_chnA ?_
  | with_reducible refine r_chnB ?_
  | with_reducible refine r_chnC ?_
  | with_reducible refine r_chnD ?_
  | with_reducible refine r_inTx ?_
  | with_reducible refine r_iSigns ?_)
local macro_rules | `(tactic| walk_at "go1") => `(tactic| first
  | with_reducible refine r_jn ?_
  | with_reducible refine r_fmt ?_
  | with_reducible refine r_jn0 ?_
  | ((with_reducible refine r_jnK ?jy ?_); case jy => first | omega | decide +kernel))
noncomputable def runT (r:TRun):Prop:=PostS r.1 /\ PostS r.2.1 /\ r.1 ≠ r.2.1 /\ 0 < r.2.2.num /\ r.2.2.num <= 100 /\ r.2.2.den <= 100
theorem run_is {K:PySem.W.Frag} {H:Hp} {v:V} {r:TRun} (h:RunQ H v (Sum.inr r.1,Sum.inr r.2.1,r.2.2)) (t:runT r):IsRunQ K H v true:=by
  obtain ⟨p,u,rfl,hp,pt,rfl,hpt⟩:=h
  obtain ⟨h1,h2,h3,h4,h5,h6⟩:=t
  have hd:=r.2.2.den_pos
  have m1:Sm 8000 r.2.2.num:=(Sm.of (n:=64) (by omega) (by omega)).mono (by decide)
  have m2:Sm 8000 (r.2.2.den:Int):=(Sm.of (n:=64) (by omega) (by omega)).mono (by decide)
  have:=IsRunQ.run (K:=K) hp h1.q h2.q h3 hpt (fr_frV _) m1 m2
  rw [decide_eq_true h4] at this
  exact this
theorem runs_are {K:PySem.W.Frag} {H:Hp}:∀ {n:List TRun} {vs:List V},Paired (RunQ H) vs (kn n) -> (∀ r ∈ n,runT r) -> Paired (IsRunQ K H) vs (List.replicate n.length true)
  | [],_,.nil,_ => .nil
  | r :: n,_,.cons h t,hr => .cons (run_is h (hr r (by simp))) (runs_are t fun x hx => hr x (List.mem_cons_of_mem _ hx))
noncomputable def NetBad (K:PySem.W.Frag) (H:Hp) (v:V):Prop:=(∃ l vs bs,v = .ref l /\ H l = some (.lst vs) /\ Paired (IsRunQ K H) vs bs /\ vs.length <= 900 /\ (vs.length = 0 ∨ 120 < vs.length ∨ false ∈ bs)) ∨ NL K H v
theorem den_strs6 {G:Hp}:∀ ys:List Str,DenL G (ys.map Dt.str) (ys.map V.str)
  | [] => rfl
  | y :: r => ⟨_,_,rfl,rfl,den_strs6 r⟩
theorem dep_strs6:∀ ys:List Str,depL (ys.map Dt.str) <= 50
  | [] => by simp [depL]
  | y :: r => by
    have:=dep_strs6 r
    rw [List.map_cons]
    simp only [depL,dep]
    omega
local macro_rules | `(tactic| walk_at "go1") => `(tactic| first
  | rw [if_pos (show (_ == _) = true by decide +kernel)]
  | rw [if_neg (show ¬ (_ == _) = true by decide +kernel)]
  | with_reducible refine r_iEnumT ?_)
structure XmS (mg:Str -> Option Value) (xt x1 x4:Addr):Prop where
  t:mg "TileError" = some (.ref xt)
  m_NoNet:mg "NoNet" = some (.ref x1)
  m_TooMany:mg "TooMany" = some (.ref x4)
  zV:mg "ValueError" = none
structure XrS (K:PySem.W.Frag) (xt x1 x4 C:Addr) (i:Nat):Prop where
  x:XCls K C
  e:XrE K C
  v:PySem.W.kitOne K (.ref C) (.type "ValueError") = some true
  t:PySem.W.exmOne K (.ref C) (.ref xt) = some true
  k1:PySem.W.kitOne K (.ref C) (.ref x1) = some (Nat.beq 1 i)
  k4:PySem.W.kitOne K (.ref C) (.ref x4) = some (Nat.beq 4 i)
noncomputable abbrev s_is_whole:Stmt:=top 5
theorem sc_is_whole:FnScope ["thing"] ["thing"] (defScope s_is_whole):=⟨rfl,rfl,rfl,by decide +kernel,rfl,by decide +kernel,by decide +kernel⟩
noncomputable abbrev s_common_divisor:Stmt:=top 6
theorem sc_common_divisor:FnScope ["one","other","rest"] ["one","other"] (defScope s_common_divisor):=⟨rfl,rfl,rfl,by decide +kernel,rfl,by decide +kernel,by decide +kernel⟩
noncomputable abbrev s_is_fraction:Stmt:=top 7
theorem sc_is_fraction:FnScope ["thing"] ["thing"] (defScope s_is_fraction):=⟨rfl,rfl,rfl,by decide +kernel,rfl,by decide +kernel,by decide +kernel⟩
noncomputable abbrev s_is_less:Stmt:=top 8
theorem sc_is_less:FnScope ["one","other"] ["one","other"] (defScope s_is_less):=⟨rfl,rfl,rfl,by decide +kernel,rfl,by decide +kernel,by decide +kernel⟩
noncomputable abbrev s_is_part:Stmt:=top 14
theorem sc_is_part:FnScope ["text"] ["text"] (defScope s_is_part):=⟨rfl,rfl,rfl,by decide +kernel,rfl,by decide +kernel,by decide +kernel⟩
noncomputable abbrev s_is_post:Stmt:=top 15
theorem sc_is_post:FnScope ["thing","parts"] ["thing"] (defScope s_is_post):=⟨rfl,rfl,rfl,by decide +kernel,rfl,by decide +kernel,by decide +kernel⟩
noncomputable abbrev s_is_run:Stmt:=top 16
theorem sc_is_run:FnScope ["thing"] ["thing"] (defScope s_is_run):=⟨rfl,rfl,rfl,by decide +kernel,rfl,by decide +kernel,by decide +kernel⟩
noncomputable abbrev s_net_of:Stmt:=top 17
theorem sc_net_of:FnScope ["runs","number","run"] ["runs"] (defScope s_net_of):=⟨rfl,rfl,rfl,by decide +kernel,rfl,by decide +kernel,by decide +kernel⟩
noncomputable abbrev s_count_in:Stmt:=top 19
theorem sc_count_in:FnScope ["row","counts"] ["row","counts"] (defScope s_count_in):=⟨rfl,rfl,rfl,by decide +kernel,rfl,by decide +kernel,by decide +kernel⟩
noncomputable abbrev s_counted:Stmt:=top 20
theorem sc_counted:FnScope ["rows","count","counts","row"] ["rows"] (defScope s_counted):=⟨rfl,rfl,rfl,by decide +kernel,rfl,by decide +kernel,by decide +kernel⟩
noncomputable abbrev s_runs_along:Stmt:=top 21
theorem sc_runs_along:FnScope ["time","posts"] ["time","posts"] (defScope s_runs_along):=⟨rfl,rfl,rfl,by decide +kernel,rfl,by decide +kernel,by decide +kernel⟩
noncomputable abbrev s_runs_of:Stmt:=top 24
theorem sc_runs_of:FnScope ["row","pieces"] ["row","pieces"] (defScope s_runs_of):=⟨rfl,rfl,rfl,by decide +kernel,rfl,by decide +kernel,by decide +kernel⟩
noncomputable abbrev s_opened:Stmt:=top 25
theorem sc_opened:FnScope ["rows","pieces","runs","row"] ["rows"] (defScope s_opened):=⟨rfl,rfl,rfl,by decide +kernel,rfl,by decide +kernel,by decide +kernel⟩
noncomputable abbrev s_cell_at:Stmt:=top 27
theorem sc_cell_at:FnScope ["_law_script","_law_k"] ["_law_script","_law_k"] (defScope s_cell_at):=⟨rfl,rfl,rfl,by decide +kernel,rfl,by decide +kernel,by decide +kernel⟩
noncomputable abbrev s_number:Stmt:=top 28
theorem sc_number:FnScope ["_law_script","_law_k","_law_cell","_law_one","_law_two","_law_three","_law_number_here"] ["_law_script","_law_k"] (defScope s_number):=⟨rfl,rfl,rfl,by decide +kernel,rfl,by decide +kernel,by decide +kernel⟩
noncomputable abbrev s_lowest:Stmt:=top 29
theorem sc_lowest:FnScope ["_law_top","_law_bottom","_law_one","_law_other"] ["_law_top","_law_bottom"] (defScope s_lowest):=⟨rfl,rfl,rfl,by decide +kernel,rfl,by decide +kernel,by decide +kernel⟩
noncomputable abbrev s_names:Stmt:=top 30
theorem sc_names:FnScope ["_law_script","_law_letters","_law_number_here","_law_before","_law_behind"] ["_law_script"] (defScope s_names):=⟨rfl,rfl,rfl,by decide +kernel,rfl,by decide +kernel,by decide +kernel⟩
noncomputable abbrev s_post:Stmt:=top 31
theorem sc_post:FnScope ["_law_number_here","_law_names_here","_law_kind","_law_first","_law_more"] ["_law_number_here","_law_names_here"] (defScope s_post):=⟨rfl,rfl,rfl,by decide +kernel,rfl,by decide +kernel,by decide +kernel⟩
noncomputable abbrev s_time:Stmt:=top 32
theorem sc_time:FnScope ["_law_number_here","_law_most","_law_bottom"] ["_law_number_here"] (defScope s_time):=⟨rfl,rfl,rfl,by decide +kernel,rfl,by decide +kernel,by decide +kernel⟩
noncomputable abbrev s_posts:Stmt:=top 33
theorem sc_posts:FnScope ["_law_number_here","_law_names_here","_law_many","_law_found","_law_k"] ["_law_number_here","_law_names_here","_law_many"] (defScope s_posts):=⟨rfl,rfl,rfl,by decide +kernel,rfl,by decide +kernel,by decide +kernel⟩
noncomputable abbrev s_plain:Stmt:=top 34
theorem sc_plain:FnScope ["_law_number_here","_law_names_here","_law_kind","_law_many","_law_posts_here","_law_more","_law_k","_law_time_here"] ["_law_number_here","_law_names_here"] (defScope s_plain):=⟨rfl,rfl,rfl,by decide +kernel,rfl,by decide +kernel,by decide +kernel⟩
noncomputable abbrev s_row_runs:Stmt:=top 37
theorem sc_row_runs:FnScope ["_law_row_here","_law_pieces","_law_params","_law_inner","_law_posts_here","_law_found","_law_k"] ["_law_row_here","_law_pieces"] (defScope s_row_runs):=⟨rfl,rfl,rfl,by decide +kernel,rfl,by decide +kernel,by decide +kernel⟩
noncomputable abbrev s_runs:Stmt:=top 38
theorem sc_runs:FnScope ["_law_rows","_law_pieces","_law_found","_law_row_here"] ["_law_rows","_law_pieces"] (defScope s_runs):=⟨rfl,rfl,rfl,by decide +kernel,rfl,by decide +kernel,by decide +kernel⟩
noncomputable abbrev s_due:Stmt:=top 39
theorem sc_due:FnScope ["_law_rows","_law_found","_law_bad"] ["_law_rows"] (defScope s_due):=⟨rfl,rfl,rfl,by decide +kernel,rfl,by decide +kernel,by decide +kernel⟩
noncomputable abbrev s_told:Stmt:=top 40
theorem sc_told:FnScope ["_law_rows","_law_found","_law_told_here","e"] ["_law_rows"] (defScope s_told):=⟨rfl,rfl,rfl,by decide +kernel,rfl,by decide +kernel,by decide +kernel⟩
noncomputable abbrev s_full:Stmt:=top 41
theorem sc_full:FnScope ["_law_many","_law_names_here","_law_number_here","_law_size","_law_left","_law_rows","_law_wide"] ["_law_many","_law_names_here","_law_number_here"] (defScope s_full):=⟨rfl,rfl,rfl,by decide +kernel,rfl,by decide +kernel,by decide +kernel⟩
noncomputable abbrev s_law:Stmt:=top 42
theorem sc_law:FnScope ["_law_script","_law_names_here","_law_rows","_law_handed","_law_due_here","_law_many","_law_some"] ["_law_script"] (defScope s_law):=⟨rfl,rfl,rfl,by decide +kernel,rfl,by decide +kernel,by decide +kernel⟩
noncomputable def spWhole (K:PySem.W.Frag):Sp:=fun vs H Q _ => ∃ (x:V) (t:Value) (b c:Bool),vs = [x] /\ TyOf K H x t /\ PySem.W.kitOne K t (.type "int") = some b /\ PySem.W.kitOne K t (.type "bool") = some c /\ Q (.bl (b && !c)) H
noncomputable def spGcd:Sp:=fun vs H Q _ => ∃ (a b:Int),vs = [.int a,.int b] /\ Q (.int (Int.gcd a b:Int)) H
noncomputable def spIsFrac (K:PySem.W.Frag):Sp:=fun vs H Q _ => ∃ (x:V) (r:Bool),vs = [x] /\ Frq K H x r /\ Q (.bl r) H
noncomputable def spLess:Sp:=fun vs H Q _ => ∃ (x y:V) (a b c d:Int),vs = [x,y] /\ Fr2 H x a b /\ Fr2 H y c d /\ CMulB a d /\ CMulB c b /\ Q (.bl (decide (a * d < c * b))) H
noncomputable def spPart:Sp:=fun vs H Q _ => ∃ z:Str,vs = [.str z] /\ z.length <= 1000 /\ ∀ H',Same H H' -> Q (.bl (partB z)) H'
noncomputable def spPost (K:PySem.W.Frag):Sp:=fun vs H Q _ => ∃ (x:V) (b:Bool),vs = [x] /\ PostQ K H x b /\ ∀ H',Same H H' -> Q (.bl b) H'
noncomputable def spIsRun (K:PySem.W.Frag):Sp:=fun vs H Q _ => ∃ (x:V) (b:Bool),vs = [x] /\ IsRunQ K H x b /\ ∀ H',Same H H' -> Q (.bl b) H'
noncomputable def spNetOf (K:PySem.W.Frag) (x:Addr):Sp:=fun vs H Q E => ∃ v:V,vs = [v] /\
  ((∃ l vs' bs,v = .ref l /\ H l = some (.lst vs') /\ Paired (IsRunQ K H) vs' bs /\ 1 <= vs'.length /\ vs'.length <= 120 /\ (∀ b ∈ bs,b = true) /\ ∀ l' H',H l' = none -> Same H H' -> H' l' = some (.lst vs') -> Q (.ref l') H') ∨
   (NetBad K H v /\ ∀ H',Same H H' -> E (.ref x) none H'))
noncomputable def spCountIn:Sp:=fun vs H Q _ => ∃ (v cv:V) (r:PRow),vs = [v,cv] /\ PRowQ H v r /\ (2 <= szP r /\ szP r <= 200) /\ Q (.int (r.runs.length:Int)) H
noncomputable def spCounted:Sp:=fun vs H Q _ => ∃ (l:Addr) (xs:List V) (rs:List PRow),vs = [.ref l] /\ H l = some (.lst xs) /\ Paired (PRowQ H) xs rs /\ (∀ r ∈ rs,2 <= szP r /\ szP r <= 190) /\ ∀ H',Same H H' -> Q (.int (cntR rs:Int)) H'
noncomputable def spAlong (K:PySem.W.Frag):Sp:=fun vs H Q _ => ∃ (v:V) (t:Rat) (p:Addr) (ps:List Str),vs = [v,.ref p] /\ FrQ H v t /\ H p = some (.tup (ps.map V.str)) /\ 1 <= ps.length /\ ps.length <= 200 /\ ∀ l H',H l = none -> Same H H' -> LQ RunQ H' l (kn (along t ps)) -> Q (.ref l) H'
noncomputable def spRunsOf (K:PySem.W.Frag):Sp:=fun vs H Q _ => ∃ (v cv:V) (r:PRow),vs = [v,cv] /\ PRowQ H v r /\ (2 <= szP r /\ szP r <= 190) /\ ∀ l H',H l = none -> Same H H' -> LQ RunQ H' l (kn r.runs) -> Q (.ref l) H'
noncomputable def spOpened (x1 x4:Addr):Sp:=fun vs H Q E => ∃ (l:Addr) (rs:List PRow),vs = [.ref l] /\ RowsQ H l rs /\ (∀ r ∈ rs,okQ r) /\ (120 < cntR rs -> ∀ H',Same H H' -> E (.ref x4) none H') /\ (cntR rs <= 120 -> BadR rs -> ∀ H',Same H H' -> E (.ref x1) none H') /\
  (cntR rs <= 120 -> ¬ BadR rs -> ∀ l' H',H l' = none -> Same H H' -> LQ RunQ H' l' (kn (allR rs)) -> Q (.ref l') H')
noncomputable def spCell (K:PySem.W.Frag):Sp:=fun vs H Q _ => ∃ (a:Addr) (ns:List Int) (k:Int),vs = [.ref a,.int k] /\ SqL K H a (ns.map V.int) /\ 0 <= k /\ ∀ r,Q (.int r) H
noncomputable def spNumW (K:PySem.W.Frag):Sp:=fun vs H Q _ => ∃ (a:Addr) (ns:List Int) (k:Int),vs = [.ref a,.int k] /\ SqL K H a (ns.map V.int) /\ 0 <= k /\ k <= 1000 /\ ∀ r,0 <= r -> Q (.int r) H
noncomputable def spLowest:Sp:=fun vs H Q _ => ∃ (t b:Int),vs = [.int t,.int b] /\ 0 < b /\ Sm 8000 t /\ Sm 8000 b /\
  ∀ p,H p = none -> Q (.ref p) (upd H p (.tup [.int (lowT t b),.int (lowB t b)]))
noncomputable def spNames73 (K:PySem.W.Frag):Sp:=fun vs H Q _ => ∃ (a:Addr) (ns:List Int),vs = [.ref a] /\ SqL K H a (ns.map V.int) /\ ∀ l H' (U:List Str),H l = none -> Same H H' -> H' l = some (.lst (U.map V.str)) -> U.length = 8 -> (∀ s ∈ U,partB s = true) -> Q (.ref l) H'
theorem join_post {x:Str} {r:List Str} (hx:∀ p ∈ x :: r,partB p = true) (hl:r.length <= 3):PostS (Str.join ⟨#[46]⟩ (x :: r)):=by
  constructor
  . show pst _ 1 0 = true
    rw [pst_join r x 1 fun c hc => (part_facts (hx c hc)).2.2,decide_eq_true (show 1 + r.length <= 4 by omega),Bool.true_and,List.all_eq_true]
    exact hx
  . have e2:=PyProof.Rows.len_join_cons ⟨#[46]⟩ x r
    have e3:(⟨#[46]⟩:Str).length = 1:=rfl
    rw [e3] at e2
    have hs:=sum_le (cs:=x :: r) fun c hc => (part_facts (hx c hc)).2.1
    rw [List.length_cons] at hs
    omega
noncomputable def spPost73:Sp:=fun vs H Q _ => ∃ (c:Int) (ln:Addr) (U:List Str),vs = [.int c,.ref ln] /\ 0 <= c /\ H ln = some (.lst (U.map V.str)) /\ U.length = 8 /\ (∀ s ∈ U,partB s = true) /\ ∀ (s:Str) H',Same H H' -> PostS s -> Q (.str s) H'
theorem at3 {x0 x1 x2:Int} (P:Int -> Prop) (h0:P x0) (h1:P x1) (h2:P x2) (i:Int) (l:0 <= i) (u:i < 3):∃ t:Int,atI [V.int x0,V.int x1,V.int x2] i = some (.int t) /\ P t:=by
  have:i = 0 ∨ i = 1 ∨ i = 2:=by omega
  rcases this with rfl | rfl | rfl
  . exact ⟨_,rfl,h0⟩
  . exact ⟨_,rfl,h1⟩
  . exact ⟨_,rfl,h2⟩
noncomputable def spTime73:Sp:=fun vs H Q _ => ∃ c:Int,vs = [.int c] /\ 0 <= c /\ ∀ v q H',Same H H' -> FrQ H' v q -> TimR q -> Q v H'
theorem timR_of {t b:Int} (h1:0 < t) (h2:t <= 999999999999) (h3:0 < b) (h4:b <= 999999999999):TimR (Rat.divInt t b):=by
  have hb0:b ≠ 0:=by omega
  have e:=low_rat (t:=t) hb0
  have a1:=lowT_le (t:=t) hb0
  have a2:=lowB_le (t:=t) hb0
  refine ⟨low_pos h1 h3,?_,?_⟩
  . rw [e.1]
    omega
  . have:=e.2
    omega
noncomputable def spPosts73:Sp:=fun vs H Q _ => ∃ (c:Int) (ln:Addr) (U:List Str) (m:Nat),vs = [.int c,.ref ln,.int (m:Int)] /\ 0 <= c /\ H ln = some (.lst (U.map V.str)) /\ U.length = 8 /\ (∀ s ∈ U,partB s = true) /\ m <= 100 /\ ∀ p H' (ps:List Str),Same H H' -> H' p = some (.tup (ps.map V.str)) -> ps.length = m -> (∀ s ∈ ps,PostS s) -> Q (.ref p) H'
theorem at5 (i:Int) (l:0 <= i) (u:i < 5):∃ t:Nat,atI [V.int 2,V.int 2,V.int 3,V.int 4,V.int 5] i = some (.int (t:Int)) /\ 2 <= t /\ t <= 5:=by
  have:i = 0 ∨ i = 1 ∨ i = 2 ∨ i = 3 ∨ i = 4:=by omega
  rcases this with rfl | rfl | rfl | rfl | rfl
  . exact ⟨2,rfl,by decide,by decide⟩
  . exact ⟨2,rfl,by decide,by decide⟩
  . exact ⟨3,rfl,by decide,by decide⟩
  . exact ⟨4,rfl,by decide,by decide⟩
  . exact ⟨5,rfl,by decide,by decide⟩
noncomputable def spPlain73:Sp:=fun vs H Q _ => ∃ (c:Int) (ln:Addr) (U:List Str),vs = [.int c,.ref ln] /\ 0 <= c /\ H ln = some (.lst (U.map V.str)) /\ U.length = 8 /\ (∀ s ∈ U,partB s = true) /\ ∀ (v:V) H' (r:PRow),Same H H' -> PRowQ H' v r -> okP r -> Q v H'
noncomputable def spRowRuns (K:PySem.W.Frag):Sp:=fun vs H Q _ => ∃ (v cv:V) (r:PRow),vs = [v,cv] /\ PRowQ H v r /\ (2 <= szP r /\ szP r <= 190) /\ ∀ l H',H l = none -> Same H H' -> LQ RunQ H' l (kn r.runs) -> Q (.ref l) H'
noncomputable def spRuns73 (K:PySem.W.Frag):Sp:=fun vs H Q _ => ∃ (l:Addr) (rs:List PRow) (cv:V),vs = [.ref l,cv] /\ RowsQ H l rs /\ (∀ r ∈ rs,okQ r) /\ ∀ l' H',H l' = none -> Same H H' -> LQ RunQ H' l' (kn ((allR rs).take 121)) -> Q (.ref l') H'
noncomputable def spDue73 (K:PySem.W.Frag):Sp:=fun vs H Q _ => ∃ (l:Addr) (rs:List PRow),vs = [.ref l] /\ RowsQ H l rs /\ (∀ r ∈ rs,okQ r) /\ ∀ v H',Same H H' -> DV H H' v rs -> Q v H'
noncomputable def spTold73 (K:PySem.W.Frag):Sp:=fun vs H Q _ => ∃ (l:Addr) (rs:List PRow),vs = [.ref l] /\ RowsQ H l rs /\ (∀ r ∈ rs,okQ r) /\ ∀ v H',Same H H' -> DV H H' v rs -> Q v H'
noncomputable def spFull73:Sp:=fun vs H Q _ => ∃ (mm c:Int) (ln:Addr) (U:List Str),vs = [.int mm,.ref ln,.int c] /\ 100 <= mm /\ mm <= 130 /\ 0 <= c /\ H ln = some (.lst (U.map V.str)) /\ U.length = 8 /\ (∀ s ∈ U,partB s = true) /\ ∀ l H' (rs:List PRow),Same H H' -> RowsQ H' l rs -> (∀ r ∈ rs,okQ r) -> Q (.ref l) H'
noncomputable def spLaw (K:PySem.W.Frag):Sp:=fun vs H Q _ => ∃ (a:Addr) (ns:List Int),vs = [.ref a] /\ SqL K H a (ns.map V.int) /\ ns.length <= 63 /\ ∀ H',Q (.bl true) H'
section
variable {P:Program} {w:World} {K:PySem.W.Frag} {mg:Str -> Option Value} {base:Heap} {k:Nat} {xt x1 x4:Addr}
theorem ok_is_whole (T:Bl mg) (d:Df K mg "is_whole" s_is_whole ["thing"]  ) (W:XmS mg xt x1 x4) (R_NoNet:XrS K xt x1 x4 x1 1) (R_TooMany:XrS K xt x1 x4 x4 4):Okf P w K mg base (k + 1) "is_whole" ["thing"] (spWhole K):=by
  refine Okf.of d sc_is_whole (fun vs H Q E h => ?_) (fun f cdv A outer s H vs Q E hr h => ?_)
  . obtain ⟨x,t,b,c,rfl,_⟩:=h
    rfl
  . obtain ⟨x,t,b,c,rfl,ty,e1,e2,q⟩:=h
    refine ⟨_,(@pss_one _ _ _ (@ps_ret _ _ _ _ (@pe_and _ _ _ _ _ _ _ (@pe_callB _ _ _ _ _ _ _ _ _ (call_isTy (T:="int")) rfl T.z_isinstance bt_isinstance (@pa_cons _ _ _ _ _ (pv 0) (@pa_cons _ _ _ _ _ (@pe_bltn _ _ (v:=.ty "int") _ _ rfl T.z_int bt_int rfl (by decide) (by decide)) (@pa_nil _) (by rfl)) (by rfl)) (by decide) (by decide) (by rfl) (by rfl)) (@pe_one _ _ _ _ _ (@pe_not _ _ _ _ (@pe_callB _ _ _ _ _ _ _ _ _ (call_isTy (T:="bool")) rfl T.z_isinstance bt_isinstance (@pa_cons _ _ _ _ _ (pv 0) (@pa_cons _ _ _ _ _ (@pe_bltn _ _ (v:=.ty "bool") _ _ rfl T.z_bool bt_bool rfl (by decide) (by decide)) (@pa_nil _) (by rfl)) (by rfl)) (by decide) (by decide) (by rfl) (by rfl))))))),?_⟩
    walk_at "go"
    refine r_isTy ty e1 ?_
    cases b
    . walk_at "go"
      exact q
    . walk_at "go"
      refine r_isTy ty e2 ?_
      walk_at "go"
      exact q
theorem ok_common_divisor (T:Bl mg) (d:Df K mg "common_divisor" s_common_divisor ["one","other"]  ) (W:XmS mg xt x1 x4) (R_NoNet:XrS K xt x1 x4 x1 1) (R_TooMany:XrS K xt x1 x4 x4 4):Okf P w K mg base (k + 1) "common_divisor" ["one","other"] spGcd:=by
  refine Okf.of d sc_common_divisor (fun vs H Q E h => ?_) (fun f cdv A outer s H vs Q E hr h => ?_)
  . obtain ⟨a,b,rfl,_⟩:=h
    rfl
  . obtain ⟨a,b,rfl,q⟩:=h
    refine ⟨_,(@pss_cons _ _ _ _ _ (@ps_while _ _ _ _ _ _ PassesOwn.never (@pt_cmpR _ _ _ _ _ _ _ _ (op_neA hr.units) (pv 1) (@pe_int _ _ _ _) (nomark _)) (@pss_cons _ _ _ _ _ (@ps_set _ _ (i:=2) _ _ _ _ sc_common_divisor.nd rfl (by first | exact Or.inl rfl | exact Or.inr rfl) (@pe_op _ _ _ _ _ _ _ _ op_modN (pv 0) (pv 1)) (by rfl) (by first | exact .inl rfl | exact .inr rfl | assumption)) (@pss_cons _ _ _ _ _ (@ps_set _ _ (i:=0) _ _ _ _ sc_common_divisor.nd rfl (by first | exact Or.inl rfl | exact Or.inr rfl) (pv 1) (by rfl) (by first | exact .inl rfl | exact .inr rfl | assumption)) (@pss_one _ _ _ (@ps_set _ _ (i:=1) _ _ _ _ sc_common_divisor.nd rfl (by first | exact Or.inl rfl | exact Or.inr rfl) (pv 2) (by rfl) (by first | exact .inl rfl | exact .inr rfl | assumption)))))) (@pss_one _ _ _ (@ps_ret _ _ _ _ (@pe_callB _ _ _ _ _ _ _ _ _ c_abs rfl T.z_abs bt_abs (@pa_cons _ _ _ _ _ (pv 0) (@pa_nil _) (by rfl)) (by decide) (by decide) (by rfl) (by rfl))))),?_⟩
    walk_at "go"
    refine while_by (fun σ H' => ∃ (one other:Int) (o:Option V),σ = [some (.int one),some (.int other),o] /\ H' = H /\ Int.gcd one other = Int.gcd a b)
      (fun σ _ => match σ with | [_,some (.int z),_] => z.natAbs | _ => 0) ⟨_,_,_,rfl,rfl,rfl⟩ ?_ ?_
    . rintro σ H' ⟨one,other,o,rfl,rfl,hg⟩
      walk_at "go"
      refine i_d (fun c => ?_) (fun c => ?_)
      . subst c
        walk_at "go"
        rw [Int.gcd_zero_right] at hg
        have e:(if one < 0 then -one else one) = (Int.gcd a b:Int):=by rw [← hg]; split <;> omega
        rw [e]
        exact q
      . walk_at "go"
        refine ⟨⟨_,_,_,rfl,rfl,by rw [gcd_stepN c]; exact hg⟩,?_⟩
        show (one.fmod other).natAbs < other.natAbs
        exact fmod_lt c
    . intro σ H Q Q' hQ h
      obtain ⟨v,e1,h⟩:=h
      rcases h with ⟨e2,b',e3,q'⟩ | ⟨d,e,e2,e3,e4,e5,b',e6,q'⟩
      . exact ⟨v,e1,.inl ⟨e2,b',e3,hQ _ _ q'⟩⟩
      . exact ⟨v,e1,.inr ⟨d,e,e2,e3,e4,e5,b',e6,hQ _ _ q'⟩⟩
theorem ok_is_fraction (T:Bl mg) (d:Df K mg "is_fraction" s_is_fraction ["thing"]  ) (W:XmS mg xt x1 x4) (R_NoNet:XrS K xt x1 x4 x1 1) (R_TooMany:XrS K xt x1 x4 x4 4) (o_common_divisor:Okf P w K mg base k "common_divisor" ["one","other"] spGcd) (o_is_whole:Okf P w K mg base k "is_whole" ["thing"] (spWhole K)):Okf P w K mg base (k + 1) "is_fraction" ["thing"] (spIsFrac K):=by
  refine Okf.of d sc_is_fraction (fun vs H Q E h => ?_) (fun f cdv A outer s H vs Q E hr h => ?_)
  . obtain ⟨x,r,rfl,_⟩:=h
    rfl
  . obtain ⟨x,r,rfl,h,q⟩:=h
    refine ⟨_,(@pss_cons _ _ _ _ _ (@ps_if _ _ _ _ _ _ _ _ (@PW.pt _ _ _ (@pw_or _ _ _ _ _ _ _ (@pt_not _ _ _ _ (@pt_val _ _ _ (@pe_callB _ _ _ _ _ _ _ _ _ (call_isTy (T:="tuple")) rfl T.z_isinstance bt_isinstance (@pa_cons _ _ _ _ _ (pv 0) (@pa_cons _ _ _ _ _ (@pe_bltn _ _ (v:=.ty "tuple") _ _ rfl T.z_tuple bt_tuple rfl (by decide) (by decide)) (@pa_nil _) (by rfl)) (by rfl)) (by decide) (by decide) (by rfl) (by rfl)) (by intro _; rfl))) (@pw_or1 _ _ _ _ (@pt_cmpR _ _ _ _ _ _ _ _ (op_neA hr.units) (@pe_callB _ _ _ _ _ _ _ _ _ c_len rfl T.z_len bt_len (@pa_cons _ _ _ _ _ (pv 0) (@pa_nil _) (by rfl)) (by decide) (by decide) (by rfl) (by rfl)) (@pe_int _ _ _ _) (nomark _))))) (@pss_one _ _ _ (@ps_ret _ _ _ _ (@pe_bl _ _ _ _))) (@pss_nil _)) (@pss_cons _ _ _ _ _ (@ps_if _ _ _ _ _ _ _ _ (@PW.pt _ _ _ (@pw_or _ _ _ _ _ _ _ (@pt_not _ _ _ _ (@pt_val _ _ _ (@pe_callO _ _ _ _ _ _ _ _ _ _ o_is_whole hr rfl (@pa_cons _ _ _ _ _ (@pe_ix _ _ _ _ _ _ _ ix_LT (pv 0) (@pe_int _ _ _ _) (fun _ _ => rfl)) (@pa_nil _) (by rfl)) (by decide) (by rfl) (by rfl)) (by intro _; rfl))) (@pw_or1 _ _ _ _ (@pt_not _ _ _ _ (@pt_val _ _ _ (@pe_callO _ _ _ _ _ _ _ _ _ _ o_is_whole hr rfl (@pa_cons _ _ _ _ _ (@pe_ix _ _ _ _ _ _ _ ix_LT (pv 0) (@pe_int _ _ _ _) (fun _ _ => rfl)) (@pa_nil _) (by rfl)) (by decide) (by rfl) (by rfl)) (by intro _; rfl)))))) (@pss_one _ _ _ (@ps_ret _ _ _ _ (@pe_bl _ _ _ _))) (@pss_nil _)) (@pss_one _ _ _ (@ps_ret _ _ _ _ (@pe_and _ _ _ _ _ _ _ (@pe_cmpR _ _ _ _ _ _ _ _ op_ge (@pe_ix _ _ _ _ _ _ _ ix_LT (pv 0) (@pe_int _ _ _ _) (fun _ _ => rfl)) (@pe_int _ _ _ _) (nomark _)) (@pe_one _ _ _ _ _ (@pe_cmpR _ _ _ _ _ _ _ _ (op_eqA hr.units) (@pe_callO _ _ _ _ _ _ _ _ _ _ o_common_divisor hr rfl (@pa_cons _ _ _ _ _ (@pe_ix _ _ _ _ _ _ _ ix_LT (pv 0) (@pe_int _ _ _ _) (fun _ _ => rfl)) (@pa_cons _ _ _ _ _ (@pe_ix _ _ _ _ _ _ _ ix_LT (pv 0) (@pe_int _ _ _ _) (fun _ _ => rfl)) (@pa_nil _) (by rfl)) (by rfl)) (by decide) (by rfl) (by rfl)) (@pe_int _ _ _ _) (nomark _)))))))),?_⟩
    rcases h with ⟨⟨t,ty,e1⟩,rfl⟩ | ⟨p,xs,rfl,h1,h2,rfl⟩ | ⟨p,v,w',rfl,h1,fv,fw,hsm,rfl⟩
    . walk_at "go"
      refine r_isTy ty e1 ?_
      walk_at "go"
      exact q
    . walk_at "go"
      refine r_isTy (.tup h1) kit_tuple_tuple ?_
      walk_at "go"
      exact q
    . walk_at "go"
      refine r_isTy (.tup h1) kit_tuple_tuple ?_
      walk_at "go"
      refine i_d (fun _ => ?_) (fun c => absurd rfl c)
      walk_at "go"
      obtain ⟨t1,b1,c1,ty1,k1,k2,e1⟩:=flat_ty (K:=K) (H:=H) fv
      refine ⟨v,t1,b1,c1,rfl,ty1,k1,k2,?_⟩
      rw [e1]
      walk_at "go"
      cases v with
      | int a =>
        refine i_bT rfl ?_
        walk_at "go"
        obtain ⟨t2,b2,c2,ty2,k3,k4,e2⟩:=flat_ty (K:=K) (H:=H) fw
        refine ⟨w',t2,b2,c2,rfl,ty2,k3,k4,?_⟩
        rw [e2]
        walk_at "go"
        cases w' with
        | int b =>
          refine i_bT rfl ?_
          walk_at "go"
          refine i_d (fun c => ?_) (fun c => ?_)
          . walk_at "go"
            refine ⟨a,b,rfl,?_⟩
            walk_at "go"
            have e:decide ((Int.gcd a b:Int) = 1) = frV (.int a) (.int b):=by
              show _ = (decide (1 <= b) && decide (Int.gcd a b = 1))
              rw [decide_eq_true c,Bool.true_and]
              by_cases hg:Int.gcd a b = 1
              . rw [decide_eq_true hg,decide_eq_true (by omega)]
              . rw [decide_eq_false hg,decide_eq_false (by omega)]
            rw [e]
            exact q
          . walk_at "go"
            have e:frV (.int a) (.int b) = false:=by
              show (decide (1 <= b) && decide (Int.gcd a b = 1)) = false
              rw [decide_eq_false c,Bool.false_and]
            rw [e] at q
            exact q
        | non => refine i_bF rfl ?_; walk_at "go"; exact q
        | bl _ => refine i_bF rfl ?_; walk_at "go"; exact q
        | str _ => refine i_bF rfl ?_; walk_at "go"; exact q
        | _ => exact absurd (show false = true from fw) Bool.false_ne_true
      | non => refine i_bF rfl ?_; walk_at "go"; exact q
      | bl _ => refine i_bF rfl ?_; walk_at "go"; exact q
      | str _ => refine i_bF rfl ?_; walk_at "go"; exact q
      | _ => exact absurd (show false = true from fv) Bool.false_ne_true
theorem ok_is_less (T:Bl mg) (d:Df K mg "is_less" s_is_less ["one","other"]  ) (W:XmS mg xt x1 x4) (R_NoNet:XrS K xt x1 x4 x1 1) (R_TooMany:XrS K xt x1 x4 x4 4):Okf P w K mg base (k + 1) "is_less" ["one","other"] spLess:=by
  refine Okf.of d sc_is_less (fun vs H Q E h => ?_) (fun f cdv A outer s H vs Q E hr h => ?_)
  . obtain ⟨x,y,a,b,c,d,rfl,_⟩:=h
    rfl
  . obtain ⟨x,y,a,b,c,d,rfl,⟨q1,rfl,h1⟩,⟨q2,rfl,h2⟩,m1,m2,q⟩:=h
    refine ⟨_,(@pss_one _ _ _ (@ps_ret _ _ _ _ (@pe_cmpR _ _ _ _ _ _ _ _ op_lt (@pe_op _ _ _ _ _ _ _ _ op_mulB (@pe_ix _ _ _ _ _ _ _ ix_LT (pv 0) (@pe_int _ _ _ _) (fun _ _ => rfl)) (@pe_ix _ _ _ _ _ _ _ ix_LT (pv 1) (@pe_int _ _ _ _) (fun _ _ => rfl))) (@pe_op _ _ _ _ _ _ _ _ op_mulB (@pe_ix _ _ _ _ _ _ _ ix_LT (pv 1) (@pe_int _ _ _ _) (fun _ _ => rfl)) (@pe_ix _ _ _ _ _ _ _ ix_LT (pv 0) (@pe_int _ _ _ _) (fun _ _ => rfl))) (nomark _)))),?_⟩
    walk_at "go"
    refine r_mul m1 ?_
    walk_at "go"
    refine r_mul m2 ?_
    walk_at "go"
    exact q
theorem ok_is_part (T:Bl mg) (d:Df K mg "is_part" s_is_part ["text"]  ) (W:XmS mg xt x1 x4) (R_NoNet:XrS K xt x1 x4 x1 1) (R_TooMany:XrS K xt x1 x4 x4 4) {tk_LETTERS:Tok} (g_LETTERS:mg "LETTERS" = some (.str "abcdefghijklmnopqrstuvwxyz" tk_LETTERS)) {tk_MOST_LETTERS:Tok} (g_MOST_LETTERS:mg "MOST_LETTERS" = some (.int 8 tk_MOST_LETTERS)):Okf P w K mg base (k + 1) "is_part" ["text"] spPart:=by
  refine Okf.of d sc_is_part (fun vs H Q E h => ?_) (fun f cdv A outer s H vs Q E hr h => ?_)
  . obtain ⟨z,rfl,_⟩:=h
    rfl
  . obtain ⟨z,rfl,hz,q⟩:=h
    refine ⟨_,(@pss_one _ _ _ (@ps_ret _ _ _ _ (@pe_and _ _ _ _ _ _ _ (@pe_chain _ _ _ _ _ _ _ _ _ _ _ _ op_le op_le (@pe_int _ _ _ _) (@pe_callB _ _ _ _ _ _ _ _ _ c_len rfl T.z_len bt_len (@pa_cons _ _ _ _ _ (pv 0) (@pa_nil _) (by rfl)) (by decide) (by decide) (by rfl) (by rfl)) (@pe_glob _ _ (v:=(.int 8)) _ _ rfl g_MOST_LETTERS ⟨_,rfl⟩ (by decide)) (by with_unfolding_all rfl)) (@pe_one _ _ _ _ _ (@pe_callB _ _ _ _ _ _ _ _ _ (c_allB rfl) rfl T.z_all bt_all (@pa_cons _ _ _ _ _ (@pe_comp _ _ _ _ _ _ _ _ _ _ _ _ _ _ (@comp_ck _ _ (sc:=defScope s_is_part) (N:=["text"]) (tn:=["sign"]) (names:=[]) (is:=[]) rfl rfl (by decide +kernel) (by decide +kernel) rfl (by decide +kernel) rfl (by decide +kernel) (by decide +kernel) (by decide +kernel)) rfl (@pi_signs _ _ _ _ (pv 0)) (fun _ _ _ _ => (@pg_name _ _ (i:=0) _ (show (["sign"]:List Str).Nodup by decide +kernel) rfl (Or.inl rfl) (Or.inr rfl))) (fun _ _ _ _ => (@pe_cmpR _ _ _ _ _ _ _ _ op_inTx (pv 0) (@pe_glob _ _ (v:=(.str "abcdefghijklmnopqrstuvwxyz")) _ _ rfl g_LETTERS ⟨_,rfl⟩ (by decide)) (by with_unfolding_all rfl))) (fun _ _ _ _ => (@pts_none _)) (by intro _; rfl)) (@pa_nil _) (by rfl)) (by decide) (by decide) (by rfl) (by rfl)))))),?_⟩
    walk_at "go"
    have hzs:z.length <= sizeLine:=by rw [sizeLine_eq]; omega
    refine r_lens hzs ?_
    walk_at "go"
    refine i_d (fun c1 => ?_) (fun c1 => ?_)
    . walk_at "go"
      refine i_d (fun c2 => ?_) (fun c2 => ?_)
      . walk_at "go"
        refine ⟨z,rfl,?_⟩
        refine r_compS hz (fun acc i ys G => Kp acc H G /\ ys = (z.cps.toList.take i).map fun c => V.bl (decide (97 <= c) && decide (c < 123))) (fun acc h0 => ⟨Kp.new h0,rfl⟩) ?_ ?_
        . intro acc i ys G c h0 hx hyl hG ⟨kp,e⟩
          walk_at "go"
          have hx':z.cps.toList[i]? = some c:=by simpa using hx
          have hi:i < z.cps.toList.length:=(List.getElem?_eq_some_iff.mp hx').1
          refine c_next (by rw [len_cps]; exact hi) hyl hG ⟨Kp.trans kp Kp.upd,?_⟩
          have e2:z.cps.toList[i] = c:=by
            rw [List.getElem?_eq_getElem hi] at hx'
            exact Option.some.inj hx'
          rw [List.take_succ_eq_append_getElem hi,List.map_append,← e,e2,letters_mem]
          rfl
        . intro acc ys G h0 hG hl ⟨kp,e⟩
          walk_at "go"
          rw [len_cps,List.take_length] at e
          subst e
          have e3:(z.cps.toList.map fun c => V.bl (decide (97 <= c) && decide (c < 123))) = (z.cps.toList.map fun c => (decide (97 <= c) && decide (c < 123))).map V.bl:=by rw [List.map_map]; rfl
          rw [e3] at hG
          refine r_allB hG ?_
          walk_at "go"
          have e4:(z.cps.toList.map fun c => (decide (97 <= c) && decide (c < 123))).all id = partB z:=by
            unfold partB
            rw [decide_eq_true (show 1 <= z.length by omega),decide_eq_true (show z.length <= 8 by omega),Bool.and_true,Bool.true_and,List.all_map]
            rfl
          rw [e4]
          exact q _ (Same.kpn h0 (Same.refl _) kp)
      . walk_at "go"
        have e:partB z = false:=by
          unfold partB
          rw [decide_eq_false (show ¬ z.length <= 8 by omega),Bool.and_false,Bool.false_and]
        rw [e] at q
        exact q _ (Same.refl _)
    . walk_at "go"
      have e:partB z = false:=by
        unfold partB
        rw [decide_eq_false (show ¬ 1 <= z.length by omega),Bool.false_and,Bool.false_and]
      rw [e] at q
      exact q _ (Same.refl _)
theorem ok_is_post (T:Bl mg) (d:Df K mg "is_post" s_is_post ["thing"]  ) (W:XmS mg xt x1 x4) (R_NoNet:XrS K xt x1 x4 x1 1) (R_TooMany:XrS K xt x1 x4 x4 4) {tk_MOST_PARTS:Tok} (g_MOST_PARTS:mg "MOST_PARTS" = some (.int 4 tk_MOST_PARTS)) (o_is_part:Okf P w K mg base k "is_part" ["text"] spPart):Okf P w K mg base (k + 1) "is_post" ["thing"] (spPost K):=by
  refine Okf.of d sc_is_post (fun vs H Q E h => ?_) (fun f cdv A outer s H vs Q E hr h => ?_)
  . obtain ⟨x,b,rfl,_⟩:=h
    rfl
  . obtain ⟨x,b,rfl,h,q⟩:=h
    refine ⟨_,(@pss_cons _ _ _ _ _ (@ps_if _ _ _ _ _ _ _ _ (@pt_not _ _ _ _ (@pt_val _ _ _ (@pe_callB _ _ _ _ _ _ _ _ _ (call_isTy (T:="str")) rfl T.z_isinstance bt_isinstance (@pa_cons _ _ _ _ _ (pv 0) (@pa_cons _ _ _ _ _ (@pe_bltn _ _ (v:=.ty "str") _ _ rfl T.z_str bt_str rfl (by decide) (by decide)) (@pa_nil _) (by rfl)) (by rfl)) (by decide) (by decide) (by rfl) (by rfl)) (by intro _; rfl))) (@pss_one _ _ _ (@ps_ret _ _ _ _ (@pe_bl _ _ _ _))) (@pss_nil _)) (@pss_cons _ _ _ _ _ (@ps_set _ _ (i:=1) _ _ _ _ sc_is_post.nd rfl (by first | exact Or.inl rfl | exact Or.inr rfl) (@pe_bm _ _ _ _ _ _ _ _ _ _ _ _ PySem.F.plainAttrs_str PySem.F.slot_str_split PySem.F.type_str_split mt_split (pv 0) (@pa_cons _ _ _ _ _ (@pe_str _ _ _ _) (@pa_nil _) (by rfl)) (by rfl) (by rfl) (by rfl) (by rfl) (by rfl)) (by rfl) (by first | exact .inl rfl | exact .inr rfl | assumption)) (@pss_one _ _ _ (@ps_ret _ _ _ _ (@pe_and _ _ _ _ _ _ _ (@pe_cmpR _ _ _ _ _ _ _ _ op_le (@pe_callB _ _ _ _ _ _ _ _ _ c_len rfl T.z_len bt_len (@pa_cons _ _ _ _ _ (pv 1) (@pa_nil _) (by rfl)) (by decide) (by decide) (by rfl) (by rfl)) (@pe_glob _ _ (v:=(.int 4)) _ _ rfl g_MOST_PARTS ⟨_,rfl⟩ (by decide)) (nomark _)) (@pe_one _ _ _ _ _ (@pe_callB _ _ _ _ _ _ _ _ _ (c_allB rfl) rfl T.z_all bt_all (@pa_cons _ _ _ _ _ (@pe_comp _ _ _ _ _ _ _ _ _ _ _ _ _ _ (@comp_ck _ _ (sc:=defScope s_is_post) (N:=["thing","parts"]) (tn:=["part"]) (names:=[]) (is:=[]) rfl rfl (by decide +kernel) (by decide +kernel) rfl (by decide +kernel) rfl (by decide +kernel) (by decide +kernel) (by decide +kernel)) rfl (@pi_list _ _ _ _ (pv 1)) (fun _ _ _ _ => (@pg_name _ _ (i:=0) _ (show (["part"]:List Str).Nodup by decide +kernel) rfl (Or.inl rfl) (Or.inr rfl))) (fun _ _ _ _ => (@pe_callO _ _ _ _ _ _ _ _ _ _ o_is_part hr rfl (@pa_cons _ _ _ _ _ (pv 0) (@pa_nil _) (by rfl)) (by decide) (by rfl) (by rfl))) (fun _ _ _ _ => (@pts_none _)) (by intro _; rfl)) (@pa_nil _) (by rfl)) (by decide) (by decide) (by rfl) (by rfl)))))))),?_⟩
    rcases h with ⟨z,rfl,hz,rfl⟩ | ⟨⟨t,ty,e1⟩,rfl⟩
    . walk_at "go"
      refine r_isTy (.str z) kit_str_str ?_
      walk_at "go"
      have ep:(".":Str) = ⟨#[46]⟩:=by decide +kernel
      rw [ep]
      refine r_split (z:=z) (y:=⟨#[46]⟩) (by decide) (by omega) fun l hl => ?_
      have hps:=post_split z
      have hsh:∀ p ∈ Txt.split z ⟨#[46]⟩,p.length <= 1000:=fun p hp => Nat.le_trans (sp_short hp) hz
      have hsl:=sp_few z ⟨#[46]⟩
      generalize Txt.split z ⟨#[46]⟩ = ps at hps hsh hsl ⊢
      walk_at "go"
      rw [List.length_map]
      refine i_d (fun c => ?_) (fun c => ?_)
      . walk_at "go"
        refine r_listK (SqL.of upd_same) ?_
        refine r_compL (xs:=ps.map V.str) (by rw [List.length_map]; omega) (fun acc i ys G => Kp acc (upd H l (.lst (ps.map V.str))) G /\ ys = (ps.take i).map fun p => V.bl (partB p)) (fun acc h0 => ⟨Kp.new h0,rfl⟩) ?_ ?_ ?_
        . intro acc i ys G h0 _ ⟨kp,_⟩
          exact SqL.of (kp _ _ (ne_of_none upd_same h0) upd_same)
        . intro acc i ys G x h0 hx hyl hG ⟨kp,e⟩
          rw [List.getElem?_map] at hx
          cases hy:ps[i]? with
          | none => rw [hy] at hx; cases hx
          | some y =>
            rw [hy] at hx
            cases (Option.some.inj hx:V.str y = x)
            walk_at "go"
            refine ⟨y,rfl,hsh y (List.mem_of_getElem? hy),fun G1 s1 => ?_⟩
            have hi:i < ps.length:=(List.getElem?_eq_some_iff.mp hy).1
            refine c_next (by rw [List.length_map]; exact hi) hyl (s1 _ _ hG) ⟨Kp.trans (Kp.trans kp s1.kp) Kp.upd,?_⟩
            have e2:ps[i] = y:=by
              rw [List.getElem?_eq_getElem hi] at hy
              exact Option.some.inj hy
            rw [List.take_succ_eq_append_getElem hi,List.map_append,← e,e2]
            rfl
        . intro acc ys G h0 hG hyl ⟨kp,e⟩
          rw [List.length_map,List.take_length] at e
          subst e
          walk_at "go"
          have e3:(ps.map fun p => V.bl (partB p)) = (ps.map partB).map V.bl:=by rw [List.map_map]; rfl
          rw [e3] at hG
          refine r_allB hG ?_
          walk_at "go"
          have e4:(ps.map partB).all id = postB z:=by
            rw [hps,decide_eq_true (show ps.length <= 4 by omega),Bool.true_and,List.all_map]
            rfl
          rw [e4]
          exact q _ ((Same.new hl).trans (Same.kpn h0 (Same.refl _) kp))
      . walk_at "go"
        rw [decide_eq_false (show ¬ ps.length <= 4 by omega),Bool.false_and] at hps
        rw [hps] at q
        exact q _ (Same.new hl)
    . walk_at "go"
      refine r_isTy ty e1 ?_
      walk_at "go"
      exact q _ (Same.refl _)
theorem ok_is_run (T:Bl mg) (d:Df K mg "is_run" s_is_run ["thing"]  ) (W:XmS mg xt x1 x4) (R_NoNet:XrS K xt x1 x4 x1 1) (R_TooMany:XrS K xt x1 x4 x4 4) (o_is_less:Okf P w K mg base k "is_less" ["one","other"] spLess) (o_is_fraction:Okf P w K mg base k "is_fraction" ["thing"] (spIsFrac K)) (o_is_post:Okf P w K mg base k "is_post" ["thing"] (spPost K)):Okf P w K mg base (k + 1) "is_run" ["thing"] (spIsRun K):=by
  refine Okf.of d sc_is_run (fun vs H Q E h => ?_) (fun f cdv A outer s H vs Q E hr h => ?_)
  . obtain ⟨x,b,rfl,_⟩:=h
    rfl
  . obtain ⟨x,b,rfl,h,q⟩:=h
    refine ⟨_,(@pss_cons _ _ _ _ _ (@ps_if _ _ _ _ _ _ _ _ (@PW.pt _ _ _ (@pw_or _ _ _ _ _ _ _ (@pt_not _ _ _ _ (@pt_val _ _ _ (@pe_callB _ _ _ _ _ _ _ _ _ (call_isTy (T:="tuple")) rfl T.z_isinstance bt_isinstance (@pa_cons _ _ _ _ _ (pv 0) (@pa_cons _ _ _ _ _ (@pe_bltn _ _ (v:=.ty "tuple") _ _ rfl T.z_tuple bt_tuple rfl (by decide) (by decide)) (@pa_nil _) (by rfl)) (by rfl)) (by decide) (by decide) (by rfl) (by rfl)) (by intro _; rfl))) (@pw_or1 _ _ _ _ (@pt_cmpR _ _ _ _ _ _ _ _ (op_neA hr.units) (@pe_callB _ _ _ _ _ _ _ _ _ c_len rfl T.z_len bt_len (@pa_cons _ _ _ _ _ (pv 0) (@pa_nil _) (by rfl)) (by decide) (by decide) (by rfl) (by rfl)) (@pe_int _ _ _ _) (nomark _))))) (@pss_one _ _ _ (@ps_ret _ _ _ _ (@pe_bl _ _ _ _))) (@pss_nil _)) (@pss_cons _ _ _ _ _ (@ps_if _ _ _ _ _ _ _ _ (@PW.pt _ _ _ (@pw_or _ _ _ _ _ _ _ (@pt_not _ _ _ _ (@pt_val _ _ _ (@pe_callO _ _ _ _ _ _ _ _ _ _ o_is_post hr rfl (@pa_cons _ _ _ _ _ (@pe_ix _ _ _ _ _ _ _ ix_LT (pv 0) (@pe_int _ _ _ _) (fun _ _ => rfl)) (@pa_nil _) (by rfl)) (by decide) (by rfl) (by rfl)) (by intro _; rfl))) (@pw_or _ _ _ _ _ _ _ (@pt_not _ _ _ _ (@pt_val _ _ _ (@pe_callO _ _ _ _ _ _ _ _ _ _ o_is_post hr rfl (@pa_cons _ _ _ _ _ (@pe_ix _ _ _ _ _ _ _ ix_LT (pv 0) (@pe_int _ _ _ _) (fun _ _ => rfl)) (@pa_nil _) (by rfl)) (by decide) (by rfl) (by rfl)) (by intro _; rfl))) (@pw_or1 _ _ _ _ (@pt_cmpR _ _ _ _ _ _ _ _ (op_eqA hr.units) (@pe_ix _ _ _ _ _ _ _ ix_LT (pv 0) (@pe_int _ _ _ _) (fun _ _ => rfl)) (@pe_ix _ _ _ _ _ _ _ ix_LT (pv 0) (@pe_int _ _ _ _) (fun _ _ => rfl)) (nomark _)))))) (@pss_one _ _ _ (@ps_ret _ _ _ _ (@pe_bl _ _ _ _))) (@pss_nil _)) (@pss_one _ _ _ (@ps_ret _ _ _ _ (@pe_and _ _ _ _ _ _ _ (@pe_callO _ _ _ _ _ _ _ _ _ _ o_is_fraction hr rfl (@pa_cons _ _ _ _ _ (@pe_ix _ _ _ _ _ _ _ ix_LT (pv 0) (@pe_int _ _ _ _) (fun _ _ => rfl)) (@pa_nil _) (by rfl)) (by decide) (by rfl) (by rfl)) (@pe_one _ _ _ _ _ (@pe_callO _ _ _ _ _ _ _ _ _ _ o_is_less hr rfl (@pa_cons _ _ _ _ _ (@pe_tup _ _ _ _ _ (@pa_cons _ _ _ _ _ (@pe_int _ _ _ _) (@pa_cons _ _ _ _ _ (@pe_int _ _ _ _) (@pa_nil _) (by rfl)) (by rfl))) (@pa_cons _ _ _ _ _ (@pe_ix _ _ _ _ _ _ _ ix_LT (pv 0) (@pe_int _ _ _ _) (fun _ _ => rfl)) (@pa_nil _) (by rfl)) (by rfl)) (by decide) (by rfl) (by rfl)))))))),?_⟩
    cases h with
    | nt h =>
      obtain ⟨t,ty,e⟩:=h
      walk_at "go"
      refine r_isTy ty e ?_
      walk_at "go"
      exact q _ (Same.refl _)
    | len h n =>
      walk_at "go"
      refine r_isTy (.tup h) kit_tuple_tuple ?_
      walk_at "go"
      exact q _ (Same.refl _)
    | @one p u v t h hu =>
      walk_at "go"
      refine r_isTy (.tup h) kit_tuple_tuple ?_
      walk_at "go"
      refine i_d (fun c => ?_) (fun c => absurd rfl c)
      walk_at "go"
      refine ⟨u,false,rfl,hu,fun H1 s1 => ?_⟩
      walk_at "go"
      exact q _ s1
    | @two p u v t h hu hv =>
      walk_at "go"
      refine r_isTy (.tup h) kit_tuple_tuple ?_
      walk_at "go"
      refine i_d (fun c => ?_) (fun c => absurd rfl c)
      walk_at "go"
      refine ⟨u,true,rfl,hu,fun H1 s1 => ?_⟩
      have h1:=s1 _ _ h
      walk_at "go"
      refine ⟨v,false,rfl,hv.sm s1,fun H2 s2 => ?_⟩
      walk_at "go"
      exact q _ (s1.trans s2)
    | @same p z t h hu =>
      walk_at "go"
      refine r_isTy (.tup h) kit_tuple_tuple ?_
      walk_at "go"
      refine i_d (fun c => ?_) (fun c => absurd rfl c)
      walk_at "go"
      refine ⟨_,true,rfl,hu,fun H1 s1 => ?_⟩
      have h1:=s1 _ _ h
      walk_at "go"
      refine ⟨_,true,rfl,hu.sm s1,fun H2 s2 => ?_⟩
      have h2:=s2 _ _ h1
      walk_at "go"
      refine i_d (fun _ => ?_) (fun c => absurd rfl c)
      walk_at "go"
      exact q _ (s1.trans s2)
    | @time p z z' t h hu hv hn ht =>
      walk_at "go"
      refine r_isTy (.tup h) kit_tuple_tuple ?_
      walk_at "go"
      refine i_d (fun c => ?_) (fun c => absurd rfl c)
      walk_at "go"
      refine ⟨_,true,rfl,hu,fun H1 s1 => ?_⟩
      have h1:=s1 _ _ h
      walk_at "go"
      refine ⟨_,true,rfl,hv.sm s1,fun H2 s2 => ?_⟩
      have h2:=s2 _ _ h1
      walk_at "go"
      refine i_d (fun c => absurd c hn) (fun _ => ?_)
      walk_at "go"
      refine ⟨_,false,rfl,ht _ (s1.trans s2),?_⟩
      walk_at "go"
      exact q _ (s1.trans s2)
    | @run p tp z z' a c h hu hv hn ht hf sa sc =>
      walk_at "go"
      refine r_isTy (.tup h) kit_tuple_tuple ?_
      walk_at "go"
      refine i_d (fun _ => ?_) (fun e => absurd rfl e)
      walk_at "go"
      refine ⟨_,true,rfl,hu,fun H1 s1 => ?_⟩
      have h1:=s1 _ _ h
      walk_at "go"
      refine ⟨_,true,rfl,hv.sm s1,fun H2 s2 => ?_⟩
      have h2:=s2 _ _ h1
      have ht2:=s2 _ _ (s1 _ _ ht)
      walk_at "go"
      refine i_d (fun e => absurd e hn) (fun _ => ?_)
      walk_at "go"
      refine ⟨_,true,rfl,.inr (.inr ⟨tp,_,_,rfl,ht2,rfl,rfl,?_,hf.symm⟩),?_⟩
      . intro a' c' e1 e2
        cases e1
        cases e2
        exact ⟨sa,sc⟩
      walk_at "go"
      refine r_tupK fun p0 hp0 => ?_
      walk_at "go"
      refine ⟨_,_,0,1,a,c,rfl,⟨p0,rfl,upd_same⟩,⟨tp,rfl,upd_old hp0 ht2⟩,CMulB.l (by omega) (by omega),CMulB.r (by omega) (by omega),?_⟩
      walk_at "go"
      rw [Int.zero_mul,Int.mul_one]
      exact q _ ((s1.trans s2).trans (Same.new hp0))
theorem ok_net_of (T:Bl mg) (d:Df K mg "net_of" s_net_of ["runs"] ) (W:XmS mg xt x1 x4) (R_NoNet:XrS K xt x1 x4 x1 1) (R_TooMany:XrS K xt x1 x4 x4 4) {tk_MOST_RUNS:Tok} (g_MOST_RUNS:mg "MOST_RUNS" = some (.int 120 tk_MOST_RUNS)) (o_is_run:Okf P w K mg base k "is_run" ["thing"] (spIsRun K)):OkfX P w K mg base (k + 1) "net_of" ["runs"] [] (spNetOf K x1):=by
  refine OkfX.of d sc_net_of (fun vs H Q E h => ?_) (fun f cdv A outer s H vs Q E hr h => ?_)
  . obtain ⟨v,rfl,_⟩:=h
    rfl
  . obtain ⟨v,rfl,h⟩:=h
    refine ⟨_,(@pss_cons _ _ _ _ _ (@ps_if _ _ _ _ _ _ _ _ (@PW.pt _ _ _ (@pw_or _ _ _ _ _ _ _ (@pt_not _ _ _ _ (@pt_val _ _ _ (@pe_callB _ _ _ _ _ _ _ _ _ (call_isTy (T:="list")) rfl T.z_isinstance bt_isinstance (@pa_cons _ _ _ _ _ (pv 0) (@pa_cons _ _ _ _ _ (@pe_bltn _ _ (v:=.ty "list") _ _ rfl T.z_list bt_list rfl (by decide) (by decide)) (@pa_nil _) (by rfl)) (by rfl)) (by decide) (by decide) (by rfl) (by rfl)) (by intro _; rfl))) (@pw_or1 _ _ _ _ (@pt_not _ _ _ _ (@pt_chain _ _ _ _ _ _ _ _ _ _ _ _ op_le op_le (@pe_int _ _ _ _) (@pe_callB _ _ _ _ _ _ _ _ _ c_len rfl T.z_len bt_len (@pa_cons _ _ _ _ _ (pv 0) (@pa_nil _) (by rfl)) (by decide) (by decide) (by rfl) (by rfl)) (@pe_glob _ _ (v:=(.int 120)) _ _ rfl g_MOST_RUNS ⟨_,rfl⟩ (by decide)) (by with_unfolding_all rfl)))))) (@pss_one _ _ _ (@ps_raiseR _ _ _ _ _ _ _ _ _ _ (fun _ _ _ _ _ _ _ _ I m q => xe_new I m q) rfl rfl W.m_NoNet R_NoNet.e (@pa_cons _ _ _ _ _ (@pe_fst _ _ _ _ _ _ (@pj_cons _ _ _ _ _ (@pe_str _ _ _ _) (@pj_cons _ _ _ _ _ (@pe_fmt _ _ _ _ (@pe_glob _ _ (v:=(.int 120)) _ _ rfl g_MOST_RUNS ⟨_,rfl⟩ (by decide))) (@pj_cons _ _ _ _ _ (@pe_str _ _ _ _) (@pj_nil _)))) (by decide)) (@pa_nil _) (by rfl)) (by decide) (by rfl) (by rfl))) (@pss_nil _)) (@pss_cons _ _ _ _ _ (@ps_for _ _ _ _ _ _ _ _ PassesOwn.leaving rfl (@pi_enum _ _ _ _ _ _ _ _ rfl T.z_enumerate (@pa_cons _ _ _ _ _ (pv 0) (@pa_nil _) (by rfl)) (by rfl)) (@pg_tup _ _ _ _ _ (n:=2) rfl (@pgs_cons _ _ _ _ _ (@pg_name _ _ (i:=1) _ sc_net_of.nd rfl (by first | exact Or.inl rfl | exact Or.inr rfl) (by first | exact .inl rfl | exact .inr rfl | assumption)) (@pgs_cons _ _ _ _ _ (@pg_name _ _ (i:=2) _ sc_net_of.nd rfl (by first | exact Or.inl rfl | exact Or.inr rfl) (by first | exact .inl rfl | exact .inr rfl | assumption)) (@pgs_nil _) (by rfl)) (by rfl)) (by rfl) (by rfl)) (@pss_one _ _ _ (@ps_if _ _ _ _ _ _ _ _ (@pt_not _ _ _ _ (@pt_val _ _ _ (@pe_callO _ _ _ _ _ _ _ _ _ _ o_is_run hr rfl (@pa_cons _ _ _ _ _ (pv 2) (@pa_nil _) (by rfl)) (by decide) (by rfl) (by rfl)) (by intro _; rfl))) (@pss_one _ _ _ (@ps_raiseR _ _ _ _ _ _ _ _ _ _ (fun _ _ _ _ _ _ _ _ I m q => xe_new I m q) rfl rfl W.m_NoNet R_NoNet.e (@pa_cons _ _ _ _ _ (@pe_fst _ _ _ _ _ _ (@pj_cons _ _ _ _ _ (@pe_str _ _ _ _) (@pj_cons _ _ _ _ _ (@pe_fmt _ _ _ _ (pv 1)) (@pj_cons _ _ _ _ _ (@pe_str _ _ _ _) (@pj_nil _)))) (by decide)) (@pa_nil _) (by rfl)) (by decide) (by rfl) (by rfl))) (@pss_nil _))) (by intro _; rfl)) (@pss_one _ _ _ (@ps_ret _ _ _ _ (@pe_callTy _ _ _ _ _ _ _ _ _ c_list rfl T.z_list bt_list (@pa_cons _ _ _ _ _ (pv 0) (@pa_nil _) (by rfl)) (by decide) (by decide) (by rfl) (by rfl)))))),?_⟩
    rcases h with ⟨l,vs',bs,rfl,hl,pb,h1,h2,hall,q⟩ | ⟨h,q⟩
    . walk_at "go"
      refine r_isTy (.lst hl) kit_list_list ?_
      walk_at "go"
      refine e_K hl ?_
      refine r_forE (xs:=vs') (fun i σ G => ∃ o1 o2,σ = [some (.ref l),o1,o2] /\ Same H G) ⟨_,_,rfl,Same.refl _⟩ ?_ ?_ ?_
      . rintro i σ G _ ⟨o1,o2,rfl,sG⟩
        exact SqL.of (sG _ _ hl)
      . rintro i x T0 σ G hx hT ⟨o1,o2,rfl,sG⟩
        obtain ⟨b,hb,qb⟩:=Paired.at pb hx
        have hbt:=hall b (List.mem_of_getElem? hb)
        subst hbt
        have s1:=sG.trans (Same.new (o:=.tup [.int i,x]) hT)
        have hT2:=upd_same (H:=G) (a:=T0) (o:=.tup [.int i,x])
        generalize upd G T0 (.tup [.int i,x]) = G1 at s1 hT2 ⊢
        walk_at "go"
        refine ⟨_,true,rfl,qb.sm s1,fun G2 s2 => ?_⟩
        walk_at "go"
        exact ⟨_,_,rfl,s1.trans s2⟩
      . rintro σ G ⟨o1,o2,rfl,sG⟩
        walk_at "go"
        refine l_lst (sG _ _ hl) fun l' g' => ?_
        walk_at "go"
        exact q l' _ (sG.free g') (sG.trans (Same.new g')) upd_same
    . rcases h with ⟨l,vs',bs,rfl,hl,pb,hlen,hbad⟩ | ⟨t,ty,e⟩
      . walk_at "go"
        refine r_isTy (.lst hl) kit_list_list ?_
        walk_at "go"
        refine i_d (fun c1 => ?_) (fun c1 => ?_)
        . walk_at "go"
          refine i_d (fun c2 => ?_) (fun c2 => ?_)
          . walk_at "go"
            refine e_K hl ?_
            refine r_forE (xs:=vs') (fun i σ G => ∃ o1 o2,σ = [some (.ref l),o1,o2] /\ Same H G /\ ∀ j,j < i -> bs[j]? ≠ some false) ⟨_,_,rfl,Same.refl _,fun j hj => absurd hj (Nat.not_lt_zero _)⟩ ?_ ?_ ?_
            . rintro i σ G _ ⟨o1,o2,rfl,sG,_⟩
              exact SqL.of (sG _ _ hl)
            . rintro i x T0 σ G hx hT ⟨o1,o2,rfl,sG,hno⟩
              obtain ⟨b,hb,qb⟩:=Paired.at pb hx
              have s1:=sG.trans (Same.new (o:=.tup [.int i,x]) hT)
              have hT2:=upd_same (H:=G) (a:=T0) (o:=.tup [.int i,x])
              generalize upd G T0 (.tup [.int i,x]) = G1 at s1 hT2 ⊢
              have hi:i < vs'.length:=(List.getElem?_eq_some_iff.mp hx).1
              walk_at "go"
              refine ⟨_,b,rfl,qb.sm s1,fun G2 s2 => ?_⟩
              cases b with
              | false =>
                walk_at "go"
                refine r_fmK (i:=i) (by omega) fun z hz => ?_
                walk_at "go"
                intro z'
                walk_at "go"
                exact ⟨by rw [sizeLine_eq]; exact (show 1 <= 16777216 by decide),q _ (s1.trans s2)⟩
              | true =>
                walk_at "go"
                refine ⟨_,_,rfl,s1.trans s2,fun j hj => ?_⟩
                by_cases e:j = i
                . subst e
                  rw [hb]
                  intro z
                  cases z
                . exact hno j (by omega)
            . rintro σ G ⟨o1,o2,rfl,sG,hno⟩
              rcases hbad with hbad | hbad | hbad
              . omega
              . omega
              . obtain ⟨j,hj,e⟩:=List.getElem_of_mem hbad
                have:=hno j (by rw [Paired.length pb]; exact hj)
                rw [List.getElem?_eq_getElem hj,e] at this
                exact absurd rfl this
          . walk_at "go"
            refine r_fmK (i:=120) (by decide) fun z hz => ?_
            walk_at "go"
            intro z'
            walk_at "go"
            exact ⟨by rw [sizeLine_eq]; exact (show 1 <= 16777216 by decide),q _ (Same.refl _)⟩
        . walk_at "go"
          refine r_fmK (i:=120) (by decide) fun z hz => ?_
          walk_at "go"
          intro z'
          walk_at "go"
          exact ⟨by rw [sizeLine_eq]; exact (show 1 <= 16777216 by decide),q _ (Same.refl _)⟩
      . walk_at "go"
        refine r_isTy ty e ?_
        walk_at "go"
        refine r_fmK (i:=120) (by decide) fun z hz => ?_
        walk_at "go"
        intro z'
        walk_at "go"
        exact ⟨by rw [sizeLine_eq]; exact (show 1 <= 16777216 by decide),q _ (Same.refl _)⟩
theorem ok_count_in (T:Bl mg) (d:Df K mg "count_in" s_count_in ["row","counts"]  ) (W:XmS mg xt x1 x4) (R_NoNet:XrS K xt x1 x4 x1 1) (R_TooMany:XrS K xt x1 x4 x4 4):Okf P w K mg base (k + 1) "count_in" ["row","counts"] spCountIn:=by
  refine Okf.of d sc_count_in (fun vs H Q E h => ?_) (fun f cdv A outer s H vs Q E hr h => ?_)
  . obtain ⟨v,cv,r,rfl,_⟩:=h
    rfl
  . obtain ⟨v,cv,r,rfl,hro,hl,q⟩:=h
    refine ⟨_,(@pss_cons _ _ _ _ _ (@ps_if _ _ _ _ _ _ _ _ (@pt_cmpR _ _ _ _ _ _ _ _ (op_eqA hr.units) (@pe_ix _ _ _ _ _ _ _ ix_LT (pv 0) (@pe_int _ _ _ _) (fun _ _ => rfl)) (@pe_str _ _ _ _) (nomark _)) (@pss_one _ _ _ (@ps_ret _ _ _ _ (@pe_int _ _ _ _))) (@pss_nil _)) (@pss_cons _ _ _ _ _ (@ps_if _ _ _ _ _ _ _ _ (@pt_cmpR _ _ _ _ _ _ _ _ (op_eqA hr.units) (@pe_ix _ _ _ _ _ _ _ ix_LT (pv 0) (@pe_int _ _ _ _) (fun _ _ => rfl)) (@pe_str _ _ _ _) (nomark _)) (@pss_one _ _ _ (@ps_never _ _)) (@pss_nil _)) (@pss_one _ _ _ (@ps_ret _ _ _ _ (@pe_ifExp _ _ _ _ _ _ _ _ (@pt_cmpR _ _ _ _ _ _ _ _ (op_eqA hr.units) (@pe_ix _ _ _ _ _ _ _ ix_LT (pv 0) (@pe_int _ _ _ _) (fun _ _ => rfl)) (@pe_str _ _ _ _) (nomark _)) (@pe_callB _ _ _ _ _ _ _ _ _ c_len rfl T.z_len bt_len (@pa_cons _ _ _ _ _ (@pe_ix _ _ _ _ _ _ _ ix_LT (pv 0) (@pe_int _ _ _ _) (fun _ _ => rfl)) (@pa_nil _) (by rfl)) (by decide) (by decide) (by rfl) (by rfl)) (@pe_op _ _ _ _ _ _ _ _ op_sub (@pe_callB _ _ _ _ _ _ _ _ _ c_len rfl T.z_len bt_len (@pa_cons _ _ _ _ _ (@pe_ix _ _ _ _ _ _ _ ix_LT (pv 0) (@pe_int _ _ _ _) (fun _ _ => rfl)) (@pa_nil _) (by rfl)) (by decide) (by decide) (by rfl) (by rfl)) (@pe_int _ _ _ _))))))),?_⟩
    cases r with
    | run a b t =>
      obtain ⟨p,u,rfl,hp,_⟩:=hro
      walk_at "go"
      exact q
    | path k t ps =>
      obtain ⟨p,u,z,rfl,hp,_,hz⟩:=hro
      have hl':2 <= ps.length /\ ps.length <= 200:=hl
      have hlm:(ps.map V.str).length = ps.length:=List.length_map _
      cases k with
      | row =>
        have e:((PRow.path .row t ps).runs.length:Int) = ((ps.map V.str).length:Int) - 1:=by
          rw [show (PRow.path .row t ps).runs = along t ps from rfl,along_len]
          omega
        rw [e] at q
        walk_at "go"
        exact q
      | star =>
        have e:((PRow.path .star t ps).runs.length:Int) = ((ps.map V.str).length:Int) - 1:=by
          rw [show (PRow.path .star t ps).runs = ps.tail.map fun x => (ps.headD "",x,t) from rfl,List.length_map,List.length_tail]
          omega
        rw [e] at q
        walk_at "go"
        exact q
      | ring =>
        have e:((PRow.path .ring t ps).runs.length:Int) = ((ps.map V.str).length:Int):=by
          rw [show (PRow.path .ring t ps).runs = along t (ps ++ ps.take 1) from rfl,along_len,List.length_append,List.length_take]
          omega
        rw [e] at q
        walk_at "go"
        exact q
theorem ok_counted (T:Bl mg) (d:Df K mg "counted" s_counted ["rows"]  ) (W:XmS mg xt x1 x4) (R_NoNet:XrS K xt x1 x4 x1 1) (R_TooMany:XrS K xt x1 x4 x4 4) (o_count_in:Okf P w K mg base k "count_in" ["row","counts"] spCountIn):Okf P w K mg base (k + 1) "counted" ["rows"] spCounted:=by
  refine Okf.of d sc_counted (fun vs H Q E h => ?_) (fun f cdv A outer s H vs Q E hr h => ?_)
  . obtain ⟨l,xs,rs,rfl,_⟩:=h
    rfl
  . obtain ⟨l,xs,rs,rfl,hl,pr,hn,q⟩:=h
    refine ⟨_,(@pss_cons _ _ _ _ _ (@ps_set _ _ (i:=1) _ _ _ _ sc_counted.nd rfl (by first | exact Or.inl rfl | exact Or.inr rfl) (@pe_int _ _ _ _) (by rfl) (by first | exact .inl rfl | exact .inr rfl | assumption)) (@pss_cons _ _ _ _ _ (@ps_set _ _ (i:=2) _ _ _ _ sc_counted.nd rfl (by first | exact Or.inl rfl | exact Or.inr rfl) (@pe_dnewK _ _) (by rfl) (by first | exact .inl rfl | exact .inr rfl | assumption)) (@pss_cons _ _ _ _ _ (@ps_for _ _ _ _ _ _ _ _ PassesOwn.never rfl (@pi_list _ _ _ _ (pv 0)) (@pg_name _ _ (i:=3) _ sc_counted.nd rfl (by first | exact Or.inl rfl | exact Or.inr rfl) (by first | exact .inl rfl | exact .inr rfl | assumption)) (@pss_one _ _ _ (@ps_if _ _ _ _ _ _ _ _ (@pt_cmpR _ _ _ _ _ _ _ _ (op_eqA hr.units) (@pe_ix _ _ _ _ _ _ _ ix_LT (pv 3) (@pe_int _ _ _ _) (fun _ _ => rfl)) (@pe_str _ _ _ _) (nomark _)) (@pss_one _ _ _ (@ps_never _ _)) (@pss_one _ _ _ (@ps_aug _ _ (i:=1) _ _ _ _ _ _ sc_counted.nd rfl (by first | exact Or.inl rfl | exact Or.inr rfl) (@pe_callO _ _ _ _ _ _ _ _ _ _ o_count_in hr rfl (@pa_cons _ _ _ _ _ (pv 3) (@pa_cons _ _ _ _ _ (pv 2) (@pa_nil _) (by rfl)) (by rfl)) (by decide) (by rfl) (by rfl)) ip_add (by first | exact .inl rfl | exact .inr rfl))))) (by intro _; rfl)) (@pss_one _ _ _ (@ps_ret _ _ _ _ (pv 1)))))),?_⟩
    walk_at "go"
    refine r_dnew fun dc hdc => ?_
    have s0:=Same.new (o:=.dK []) hdc
    walk_at "go"
    refine r_listK (SqL.of (s0 _ _ hl)) ?_
    refine r_forL (xs:=xs) (fun i σ G => ∃ o3,σ = [some (.ref l),some (.int (cntR (rs.take i):Int)),some (.ref dc),o3] /\ Same H G) ⟨_,rfl,s0⟩ ?_ ?_ ?_
    . rintro i σ G _ ⟨o3,rfl,sG⟩
      exact SqL.of (sG _ _ hl)
    . rintro i x σ G hx ⟨o3,rfl,sG⟩
      obtain ⟨r,hr0,rq⟩:=Paired.at pr hx
      replace rq:=rq.tk sG.tk
      obtain ⟨p,ys,rfl,hp⟩:=rq.head
      have npc:=r.no_piece
      walk_at "go"
      refine r_ixt hp (atI_nat (show (V.str r.kind :: ys)[0]? = some (V.str r.kind) from rfl)) ?_
      walk_at "go"
      rw [if_neg (show ¬ (r.kind == "piece") = true by simpa using npc)]
      walk_at "go"
      refine r_aug rfl ?_
      walk_at "go"
      refine ⟨_,_,r,rfl,rq,⟨(hn r (List.mem_of_getElem? hr0)).1,Nat.le_trans (hn r (List.mem_of_getElem? hr0)).2 (by decide)⟩,?_⟩
      walk_at "go"
      refine ⟨_,_,rfl,rfl,⟨some (.ref p),?_,sG⟩⟩
      rw [cnt_take hr0,Int.natCast_add]
      rfl
    rintro σ G ⟨o3,rfl,sG⟩
    walk_at "go"
    rw [Paired.length pr,List.take_length] at *
    exact q _ sG
theorem ok_runs_along (T:Bl mg) (d:Df K mg "runs_along" s_runs_along ["time","posts"]  ) (W:XmS mg xt x1 x4) (R_NoNet:XrS K xt x1 x4 x1 1) (R_TooMany:XrS K xt x1 x4 x4 4):Okf P w K mg base (k + 1) "runs_along" ["time","posts"] (spAlong K):=by
  refine Okf.of d sc_runs_along (fun vs H Q E h => ?_) (fun f cdv A outer s H vs Q E hr h => ?_)
  . obtain ⟨v,t,p,ps,rfl,_⟩:=h
    rfl
  . obtain ⟨v,t,p,ps,rfl,hv,hp,h0,hn,q⟩:=h
    refine ⟨_,(@pss_one _ _ _ (@ps_ret _ _ _ _ (@pe_comp _ _ _ _ _ _ _ _ _ _ _ _ _ _ (@comp_ck _ _ (sc:=defScope s_runs_along) (N:=["time","posts"]) (tn:=["place","post"]) (names:=["time","posts"]) (is:=[0,1]) rfl rfl (by decide +kernel) (by decide +kernel) rfl (by decide +kernel) rfl (by decide +kernel) (by decide +kernel) (by decide +kernel)) rfl (pi_enumT rfl T.z_enumerate (pa_cons (pe_slice sl_any (pv 1) po_none (po_some (pe_un un_neg pe_int))) pa_nil)) (fun _ _ _ _ => (@pg_tupc _ _ _ _ _ _ _ _ _ _ _ (n:=2) _ rfl (@pgs_cons _ _ _ _ _ (@pg_name _ _ (i:=0) _ (show (["place","post","time","posts"]:List Str).Nodup by decide +kernel) rfl (Or.inl rfl) (Or.inr rfl)) (@pgs_cons _ _ _ _ _ (@pg_name _ _ (i:=1) _ (show (["place","post","time","posts"]:List Str).Nodup by decide +kernel) rfl (Or.inl rfl) (Or.inr rfl)) (@pgs_nil _) (by rfl)) (by rfl)) (by rfl) (by rfl))) (fun _ _ _ _ => (@pe_tup _ _ _ _ _ (@pa_cons _ _ _ _ _ (pv 1) (@pa_cons _ _ _ _ _ (@pe_ix _ _ _ _ _ _ _ ix_LTc (pv 3) (@pe_op _ _ _ _ _ _ _ _ op_addAc (pv 0) (@pe_int _ _ _ _)) (fun _ _ => rfl)) (@pa_cons _ _ _ _ _ (pv 2) (@pa_nil _) (by rfl)) (by rfl)) (by rfl)))) (fun _ _ _ _ => (@pts_none _)) (by intro _; rfl)))),?_⟩
    have hlm:(ps.map V.str).length = ps.length:=List.length_map _
    walk_at "go"
    refine s_init hp (by omega) fun l1 hl1 => ?_
    have s1:=Same.new (o:=.tup (ps.map V.str).dropLast) hl1
    have hl1':=upd_same (H:=H) (a:=l1) (o:=.tup (ps.map V.str).dropLast)
    generalize L2.upd H l1 (.tup (ps.map V.str).dropLast) = G0 at s1 hl1' ⊢
    have hdl:(ps.map V.str).dropLast.length = ps.length - 1:=by rw [List.length_dropLast,hlm]
    refine e_T hl1' ?_
    refine r_compEK (xs:=(ps.map V.str).dropLast) (by omega) hl1' (fun acc i ys G => Kp acc G0 G /\ Paired (RunQ G) ys (kn ((along t ps).take i))) ?_ ?_ ?_ ?_
    . intro acc h0
      exact ⟨Kp.new h0,.nil⟩
    . rintro acc i ys G h0 hi ⟨kp,_⟩
      exact fun p xs h => kp _ _ (ne_of_none h h0) h
    . rintro acc i ys G x T h0 hx hyl hG hT ⟨kp,pr⟩
      have hi:i < ps.length - 1:=by have:=(List.getElem?_eq_some_iff.mp hx).1; omega
      obtain ⟨a,ea⟩:∃ a,ps[i]? = some a:=⟨_,List.getElem?_eq_getElem (by omega)⟩
      obtain ⟨b,eb⟩:∃ b,ps[i + 1]? = some b:=⟨_,List.getElem?_eq_getElem (by omega)⟩
      have hxa:x = .str a:=by
        rw [List.getElem?_dropLast,if_pos (by omega),List.getElem?_map,ea] at hx
        cases hx
        rfl
      subst hxa
      have tG:Same H G:=s1.trans fun b o h => kp _ _ (ne_of_none h h0) h
      have t1:=Same.new (o:=.tup [V.int i,V.str a]) hT
      generalize L2.upd G T (.tup [V.int i,V.str a]) = G1 at t1 ⊢
      walk_at "go"
      refine r_ixt (v:=.str b) (t1 _ _ (tG _ _ hp)) ?_ ?_
      . rw [show ((i:Int) + 1) = ((i + 1:Nat):Int) by omega]
        exact atI_nat (by rw [List.getElem?_map,eb]; rfl)
      walk_at "go"
      refine r_tupK fun p9 hp9 => ?_
      have t2:=t1.trans (Same.new (o:=.tup [.str a,.str b,v]) hp9)
      have h9:=upd_same (H:=G1) (a:=p9) (o:=.tup [.str a,.str b,v])
      generalize L2.upd G1 p9 (.tup [.str a,.str b,v]) = G2 at t2 h9 ⊢
      have hG2:=t2 _ _ hG
      have tk:=TK.lst (o:=.lst (ys ++ [.ref p9])) hG2
      refine c_next (by omega) hyl hG2 ⟨(kp.trans t2.kp).trans Kp.upd,?_⟩
      rw [kn_take _ _ (along_at t ps i a b ea eb)]
      exact Pd.snoc (Pd.imp pr fun v b f => (RunQ.tk f t2.tk).tk tk) (RunQ.mk3 (tk _ _ h9) (((hv.tk tG.tk).tk t2.tk).tk tk))
    . rintro acc ys G h0 hG hyl ⟨kp,pr⟩
      rw [hdl,List.take_of_length_le (by rw [along_len]; omega)] at pr
      exact q acc G (s1.free h0) (s1.trans fun b o h => kp _ _ (ne_of_none h h0) h) ⟨ys,hG,pr⟩
theorem ok_runs_of (T:Bl mg) (d:Df K mg "runs_of" s_runs_of ["row","pieces"]  ) (W:XmS mg xt x1 x4) (R_NoNet:XrS K xt x1 x4 x1 1) (R_TooMany:XrS K xt x1 x4 x4 4) (o_runs_along:Okf P w K mg base k "runs_along" ["time","posts"] (spAlong K)):Okf P w K mg base (k + 1) "runs_of" ["row","pieces"] (spRunsOf K):=by
  refine Okf.of d sc_runs_of (fun vs H Q E h => ?_) (fun f cdv A outer s H vs Q E hr h => ?_)
  . obtain ⟨v,cv,r,rfl,_⟩:=h
    rfl
  . obtain ⟨v,cv,r,rfl,hro,hl,q⟩:=h
    refine ⟨_,(@pss_cons _ _ _ _ _ (@ps_if _ _ _ _ _ _ _ _ (@pt_cmpR _ _ _ _ _ _ _ _ (op_eqA hr.units) (@pe_ix _ _ _ _ _ _ _ ix_LT (pv 0) (@pe_int _ _ _ _) (fun _ _ => rfl)) (@pe_str _ _ _ _) (nomark _)) (@pss_one _ _ _ (@ps_ret _ _ _ _ (@pe_lst _ _ _ _ (@pa_cons _ _ _ _ _ (@pe_tup _ _ _ _ _ (@pa_cons _ _ _ _ _ (@pe_ix _ _ _ _ _ _ _ ix_LT (pv 0) (@pe_int _ _ _ _) (fun _ _ => rfl)) (@pa_cons _ _ _ _ _ (@pe_ix _ _ _ _ _ _ _ ix_LT (pv 0) (@pe_int _ _ _ _) (fun _ _ => rfl)) (@pa_cons _ _ _ _ _ (@pe_ix _ _ _ _ _ _ _ ix_LT (pv 0) (@pe_int _ _ _ _) (fun _ _ => rfl)) (@pa_nil _) (by rfl)) (by rfl)) (by rfl))) (@pa_nil _) (by rfl))))) (@pss_nil _)) (@pss_cons _ _ _ _ _ (@ps_if _ _ _ _ _ _ _ _ (@pt_cmpR _ _ _ _ _ _ _ _ (op_eqA hr.units) (@pe_ix _ _ _ _ _ _ _ ix_LT (pv 0) (@pe_int _ _ _ _) (fun _ _ => rfl)) (@pe_str _ _ _ _) (nomark _)) (@pss_one _ _ _ (@ps_never _ _)) (@pss_nil _)) (@pss_cons _ _ _ _ _ (@ps_if _ _ _ _ _ _ _ _ (@pt_cmpR _ _ _ _ _ _ _ _ (op_eqA hr.units) (@pe_ix _ _ _ _ _ _ _ ix_LT (pv 0) (@pe_int _ _ _ _) (fun _ _ => rfl)) (@pe_str _ _ _ _) (nomark _)) (@pss_one _ _ _ (@ps_ret _ _ _ _ (@pe_comp _ _ _ _ _ _ _ _ _ _ _ _ _ _ (@comp_ck _ _ (sc:=defScope s_runs_of) (N:=["row","pieces"]) (tn:=["post"]) (names:=["row"]) (is:=[0]) rfl rfl (by decide +kernel) (by decide +kernel) rfl (by decide +kernel) rfl (by decide +kernel) (by decide +kernel) (by decide +kernel)) rfl (@pi_tup _ _ _ _ (@pe_slice _ _ _ _ _ _ _ _ _ _ sl_any (@pe_ix _ _ _ _ _ _ _ ix_LT (pv 0) (@pe_int _ _ _ _) (fun _ _ => rfl)) (@po_some _ _ _ (@pe_int _ _ _ _)) (@po_none _))) (fun _ _ _ _ => (@pg_name _ _ (i:=0) _ (show (["post","row"]:List Str).Nodup by decide +kernel) rfl (Or.inl rfl) (Or.inr rfl))) (fun _ _ _ _ => (@pe_tup _ _ _ _ _ (@pa_cons _ _ _ _ _ (@pe_ix _ _ _ _ _ _ _ ix_LTc (@pe_ix _ _ _ _ _ _ _ ix_LTc (pv 1) (@pe_int _ _ _ _) (fun _ _ => rfl)) (@pe_int _ _ _ _) (fun _ _ => rfl)) (@pa_cons _ _ _ _ _ (pv 0) (@pa_cons _ _ _ _ _ (@pe_ix _ _ _ _ _ _ _ ix_LTc (pv 1) (@pe_int _ _ _ _) (fun _ _ => rfl)) (@pa_nil _) (by rfl)) (by rfl)) (by rfl)))) (fun _ _ _ _ => (@pts_none _)) (by intro _; rfl)))) (@pss_nil _)) (@pss_one _ _ _ (@ps_ret _ _ _ _ (@pe_callO _ _ _ _ _ _ _ _ _ _ o_runs_along hr rfl (@pa_cons _ _ _ _ _ (@pe_ix _ _ _ _ _ _ _ ix_LT (pv 0) (@pe_int _ _ _ _) (fun _ _ => rfl)) (@pa_cons _ _ _ _ _ (@pe_ifExp _ _ _ _ _ _ _ _ (@pt_cmpR _ _ _ _ _ _ _ _ (op_eqA hr.units) (@pe_ix _ _ _ _ _ _ _ ix_LT (pv 0) (@pe_int _ _ _ _) (fun _ _ => rfl)) (@pe_str _ _ _ _) (nomark _)) (@pe_op _ _ _ _ _ _ _ _ op_addA (@pe_ix _ _ _ _ _ _ _ ix_LT (pv 0) (@pe_int _ _ _ _) (fun _ _ => rfl)) (@pe_slice _ _ _ _ _ _ _ _ _ _ sl_any (@pe_ix _ _ _ _ _ _ _ ix_LT (pv 0) (@pe_int _ _ _ _) (fun _ _ => rfl)) (@po_none _) (@po_some _ _ _ (@pe_int _ _ _ _)))) (@pe_ix _ _ _ _ _ _ _ ix_LT (pv 0) (@pe_int _ _ _ _) (fun _ _ => rfl))) (@pa_nil _) (by rfl)) (by rfl)) (by decide) (by rfl) (by rfl))))))),?_⟩
    cases r with
    | run a b t =>
      obtain ⟨p,u,rfl,hp,hu⟩:=hro
      walk_at "go"
      refine r_tupK fun p1 hp1 => ?_
      have t1:=Same.new (o:=.tup [.str a,.str b,u]) hp1
      walk_at "go"
      refine r_lstK fun l1 hl1 => ?_
      have t2:=t1.trans (Same.new (o:=.lst [.ref p1]) hl1)
      walk_at "go"
      exact q l1 _ (t1.free hl1) t2 ⟨_,upd_same,.cons (RunQ.mk3 (upd_old hl1 upd_same) (hu.tk t2.tk)) .nil⟩
    | path k t ps =>
      obtain ⟨p,u,z,rfl,hp,hu,hz⟩:=hro
      have hl':2 <= ps.length /\ ps.length <= 190:=hl
      have hlm:(ps.map V.str).length = ps.length:=List.length_map _
      cases k with
      | row =>
        walk_at "go"
        exact ⟨u,t,z,ps,rfl,hu,hz,by omega,by omega,q⟩
      | star =>
        walk_at "go"
        refine s_tail hz (by omega) fun l1 hl1 => ?_
        have s1:=Same.new (o:=.tup ((ps.map V.str).drop 1)) hl1
        have h1:=upd_same (H:=H) (a:=l1) (o:=.tup ((ps.map V.str).drop 1))
        generalize L2.upd H l1 (.tup ((ps.map V.str).drop 1)) = G0 at s1 h1 ⊢
        refine r_tupIt (SqT.of h1) ?_
        have hdl:((ps.map V.str).drop 1).length = ps.length - 1:=by rw [List.length_drop,hlm]
        have hst:∀ {acc:Addr} {G:Hp},Kp acc G0 G -> G0 acc = none -> Same G0 G:=fun kp h0 b o h => kp _ _ (ne_of_none h h0) h
        obtain ⟨a,rest,rfl⟩:∃ a rest,ps = a :: rest:=by
          cases ps with
          | nil => exact absurd hl'.1 (by decide)
          | cons a rest => exact ⟨a,rest,rfl⟩
        have er:(PRow.path .star t (a :: rest)).runs = rest.map fun x => (a,x,t):=rfl
        rw [er] at q
        refine r_compT (xs:=((a :: rest).map V.str).drop 1) (by omega) (fun acc i ys G => Kp acc G0 G /\ Paired (RunQ G) ys (kn ((rest.map fun x => (a,x,t)).take i))) ?_ ?_ ?_ ?_
        . intro acc h0
          exact ⟨Kp.new h0,.nil⟩
        . rintro acc i ys G h0 hi ⟨kp,_⟩
          exact SqT.of (hst kp h0 _ _ h1)
        . rintro acc i ys G x h0 hx hyl hG ⟨kp,pr⟩
          have hi:i < rest.length:=by have:=(List.getElem?_eq_some_iff.mp hx).1; rw [hdl] at this; exact this
          obtain ⟨b,eb⟩:∃ b,rest[i]? = some b:=⟨_,List.getElem?_eq_getElem (by omega)⟩
          have hxa:x = .str b:=by
            replace hx:(rest.map V.str)[i]? = some x:=hx
            rw [List.getElem?_map,eb] at hx
            cases hx
            rfl
          subst hxa
          have tG:Same H G:=s1.trans (hst kp h0)
          have hpG:=tG _ _ hp
          have hzG:=tG _ _ hz
          walk_at "go"
          refine r_ixt hzG (atI_nat (show ((a :: rest).map V.str)[0]? = some (V.str a) from rfl)) ?_
          walk_at "go"
          refine r_tupK fun p9 hp9 => ?_
          have t2:=Same.new (o:=.tup [.str a,.str b,u]) hp9
          have h9:=upd_same (H:=G) (a:=p9) (o:=.tup [.str a,.str b,u])
          generalize L2.upd G p9 (.tup [.str a,.str b,u]) = G2 at t2 h9 ⊢
          have hG2:=t2 _ _ hG
          have tk:=TK.lst (o:=.lst (ys ++ [.ref p9])) hG2
          refine c_next (by rw [hdl]; exact hi) hyl hG2 ⟨(kp.trans t2.kp).trans Kp.upd,?_⟩
          rw [kn_take _ _ (show (rest.map fun x => (a,x,t))[i]? = some (a,b,t) by rw [List.getElem?_map,eb]; rfl)]
          exact Pd.snoc (Pd.imp pr fun v b f => (RunQ.tk f t2.tk).tk tk) (RunQ.mk3 (tk _ _ h9) (((hu.tk tG.tk).tk t2.tk).tk tk))
        . rintro acc ys G h0 hG hyl ⟨kp,pr⟩
          rw [hdl,List.take_of_length_le (by rw [List.length_map]; exact Nat.le_refl _)] at pr
          exact q acc G (s1.free h0) (s1.trans (hst kp h0)) ⟨ys,hG,pr⟩
      | ring =>
        walk_at "go"
        refine s_one hz (by omega) fun l1 hl1 => ?_
        have s1:=Same.new (o:=.tup ((ps.map V.str).take 1)) hl1
        have h1:=upd_same (H:=H) (a:=l1) (o:=.tup ((ps.map V.str).take 1))
        generalize L2.upd H l1 (.tup ((ps.map V.str).take 1)) = G0 at s1 h1 ⊢
        have hne:∀ {l:List V},1 <= l.length -> l ≠ []:=fun h e => by rw [e] at h; exact absurd h (by decide)
        refine a_tup (s1 _ _ hz) h1 (by rw [List.length_take]; omega) (hne (by omega)) (hne (by rw [List.length_take]; omega)) fun l2 hl2 => ?_
        rw [← List.map_take,← List.map_append]
        have s2:=s1.trans (Same.new (o:=.tup ((ps ++ ps.take 1).map V.str)) hl2)
        walk_at "go"
        exact ⟨u,t,l2,ps ++ ps.take 1,rfl,hu.tk s2.tk,upd_same,by rw [List.length_append]; omega,by rw [List.length_append,List.length_take]; omega,fun l H' h0 sm lq => q l H' (s2.free h0) (s2.trans sm) lq⟩
theorem ok_opened (T:Bl mg) (d:Df K mg "opened" s_opened ["rows"] ) (W:XmS mg xt x1 x4) (R_NoNet:XrS K xt x1 x4 x1 1) (R_TooMany:XrS K xt x1 x4 x4 4) {tk_MOST_RUNS:Tok} (g_MOST_RUNS:mg "MOST_RUNS" = some (.int 120 tk_MOST_RUNS)) (o_net_of:OkfX P w K mg base k "net_of" ["runs"] [] (spNetOf K x1)) (o_runs_of:Okf P w K mg base k "runs_of" ["row","pieces"] (spRunsOf K)) (o_counted:Okf P w K mg base k "counted" ["rows"] spCounted):OkfX P w K mg base (k + 1) "opened" ["rows"] [] (spOpened x1 x4):=by
  refine OkfX.of d sc_opened (fun vs H Q E h => ?_) (fun f cdv A outer s H vs Q E hr h => ?_)
  . obtain ⟨l,rs,rfl,_⟩:=h
    rfl
  . obtain ⟨l,rs,rfl,hl,hn,q1,q2,q3⟩:=h
    refine ⟨_,(@pss_cons _ _ _ _ _ (@ps_if _ _ _ _ _ _ _ _ (@pt_cmpR _ _ _ _ _ _ _ _ op_gt (@pe_callO _ _ _ _ _ _ _ _ _ _ o_counted hr rfl (@pa_cons _ _ _ _ _ (pv 0) (@pa_nil _) (by rfl)) (by decide) (by rfl) (by rfl)) (@pe_glob _ _ (v:=(.int 120)) _ _ rfl g_MOST_RUNS ⟨_,rfl⟩ (by decide)) (nomark _)) (@pss_one _ _ _ (@ps_raiseR _ _ _ _ _ _ _ _ _ _ (fun _ _ _ _ _ _ _ _ I m q => xe_new I m q) rfl rfl W.m_TooMany R_TooMany.e (@pa_cons _ _ _ _ _ (@pe_fst _ _ _ _ _ _ (@pj_cons _ _ _ _ _ (@pe_str _ _ _ _) (@pj_cons _ _ _ _ _ (@pe_fmt _ _ _ _ (@pe_glob _ _ (v:=(.int 120)) _ _ rfl g_MOST_RUNS ⟨_,rfl⟩ (by decide))) (@pj_cons _ _ _ _ _ (@pe_str _ _ _ _) (@pj_nil _)))) (by decide)) (@pa_nil _) (by rfl)) (by decide) (by rfl) (by rfl))) (@pss_nil _)) (@pss_cons _ _ _ _ _ (@ps_set _ _ (i:=1) _ _ _ _ sc_opened.nd rfl (by first | exact Or.inl rfl | exact Or.inr rfl) (@pe_dnewK _ _) (by rfl) (by first | exact .inl rfl | exact .inr rfl | assumption)) (@pss_cons _ _ _ _ _ (@ps_set _ _ (i:=2) _ _ _ _ sc_opened.nd rfl (by first | exact Or.inl rfl | exact Or.inr rfl) (@pe_lst _ _ _ _ (@pa_nil _)) (by rfl) (by first | exact .inl rfl | exact .inr rfl | assumption)) (@pss_cons _ _ _ _ _ (@ps_for _ _ _ _ _ _ _ _ PassesOwn.leaving rfl (@pi_list _ _ _ _ (pv 0)) (@pg_name _ _ (i:=3) _ sc_opened.nd rfl (by first | exact Or.inl rfl | exact Or.inr rfl) (by first | exact .inl rfl | exact .inr rfl | assumption)) (@pss_one _ _ _ (@ps_if _ _ _ _ _ _ _ _ (@pt_cmpR _ _ _ _ _ _ _ _ (op_eqA hr.units) (@pe_ix _ _ _ _ _ _ _ ix_LT (pv 3) (@pe_int _ _ _ _) (fun _ _ => rfl)) (@pe_str _ _ _ _) (nomark _)) (@pss_one _ _ _ (@ps_never _ _)) (@pss_one _ _ _ (@ps_expr _ _ _ _ (@pe_bm _ _ _ _ _ _ _ _ _ _ _ _ PySem.F.plainAttrs_list PySem.F.slot_list_extend PySem.F.type_list_extend mt_extend (pv 2) (@pa_cons _ _ _ _ _ (@pe_callO _ _ _ _ _ _ _ _ _ _ o_runs_of hr rfl (@pa_cons _ _ _ _ _ (pv 3) (@pa_cons _ _ _ _ _ (pv 1) (@pa_nil _) (by rfl)) (by rfl)) (by decide) (by rfl) (by rfl)) (@pa_nil _) (by rfl)) (by rfl) (by rfl) (by rfl) (by rfl) (by rfl)) (by rfl))))) (by intro _; rfl)) (@pss_one _ _ _ (@ps_ret _ _ _ _ (@pe_callX _ _ _ _ _ _ _ _ _ _ _ _ o_net_of hr rfl passX (@pa_cons _ _ _ _ _ (pv 2) (@pa_nil _) (by rfl)) (by decide) (by rfl) (by rfl)))))))),?_⟩
    obtain ⟨xs,hxs,pr⟩:=hl
    walk_at "go"
    refine ⟨l,xs,rs,rfl,hxs,pr,fun r hr => (hn r hr).2,fun H1 s1 => ?_⟩
    walk_at "go"
    refine i_d (fun hcm => ?_) (fun hcm => ?_)
    . replace hcm:120 < cntR rs:=by omega
      walk_at "go"
      refine r_fmK (i:=120) (by decide) fun z hz => ?_
      walk_at "go"
      intro z'
      walk_at "go"
      exact ⟨by rw [sizeLine_eq]; exact (show 1 <= 16777216 by decide),q1 hcm _ s1⟩
    replace hcm:cntR rs <= 120:=by omega
    walk_at "go"
    refine r_dnew fun dc hdc => ?_
    have s2:=s1.trans (Same.new (o:=.dK []) hdc)
    generalize L2.upd H1 dc (.dK []) = H2 at s2 ⊢
    walk_at "go"
    refine r_lstK fun lr hlr => ?_
    walk_at "go"
    refine r_listK (SqL.of (upd_old hlr (s2 _ _ hxs))) ?_
    have hlr0:=s2.free hlr
    refine r_forL (xs:=xs) (fun i σ G => ∃ o3,σ = [some (.ref l),some (.ref dc),some (.ref lr),o3] /\ Kp lr H2 G /\ TK H2 G /\ LQ RunQ G lr (kn (allR (rs.take i)))) ⟨_,rfl,Kp.new hlr,TK.new hlr,[],upd_same,.nil⟩ ?_ ?_ ?_
    . rintro i σ G _ ⟨o3,rfl,kp,_⟩
      exact SqL.of (kp _ _ (ne_of_none (s2 _ _ hxs) hlr) (s2 _ _ hxs))
    . rintro i x σ G hx ⟨o3,rfl,kp,tk,vs,hvs,pv⟩
      obtain ⟨r,hr0,rq⟩:=Paired.at pr hx
      replace rq:=(rq.tk s2.tk).tk tk
      obtain ⟨p,ys,rfl,hp⟩:=rq.head
      have npc:=r.no_piece
      walk_at "go"
      refine r_ixt hp (atI_nat (show (V.str r.kind :: ys)[0]? = some (V.str r.kind) from rfl)) ?_
      walk_at "go"
      rw [if_neg (show ¬ (r.kind == "piece") = true by simpa using npc)]
      walk_at "go"
      refine ⟨_,_,r,rfl,rq,(hn r (List.mem_of_getElem? hr0)).2,fun l2 G1 hl2 t1 lq => ?_⟩
      obtain ⟨v2,hv2,pv2⟩:=lq
      have c1:=cnt_le (rs:=rs) (i + 1)
      rw [cnt_all,all_take hr0,List.length_append] at c1
      have e1:vs.length = (allR (rs.take i)).length:=(Paired.length pv).trans (by simp [kn])
      have e2:v2.length = r.runs.length:=(Paired.length pv2).trans (by simp [kn])
      walk_at "go"
      refine r_ext (t1 _ _ hvs) hv2 (by omega) ?_
      have tk2:=TK.lst (o:=.lst (vs ++ v2)) (t1 _ _ hvs)
      walk_at "go"
      refine ⟨_,rfl,(kp.trans t1.kp).trans Kp.upd,(tk.trans t1.tk).trans tk2,_,upd_same,?_⟩
      rw [all_take hr0,show kn (allR (rs.take i) ++ r.runs) = kn (allR (rs.take i)) ++ kn r.runs by simp [kn]]
      exact Pd.app (Pd.imp pv fun v b f => (RunQ.tk f t1.tk).tk tk2) (Pd.imp pv2 fun v b f => RunQ.tk f tk2)
    rintro σ G ⟨o3,rfl,kp,tk,vs,hvs,pv⟩
    rw [Paired.length pr,List.take_length] at pv
    have sG:Same H2 G:=fun b o h => kp _ _ (ne_of_none h hlr) h
    have hok:=all_ok hn
    have e1:vs.length = (allR rs).length:=(Paired.length pv).trans (by simp [kn])
    have pb:=runs73 (K:=K) pv hok
    rw [cnt_all] at hcm
    walk_at "go"
    by_cases hb:BadR rs
    . refine ⟨_,rfl,.inr ⟨.inl ⟨lr,vs,_,rfl,hvs,pb,by omega,?_⟩,fun H' sm => q2 (by rw [cnt_all]; exact hcm) hb _ ((s2.trans sG).trans sm)⟩⟩
      rcases hb with h | ⟨r,hr,e⟩
      . rw [h] at e1
        exact .inl e1
      . exact .inr (.inr (List.mem_map.mpr ⟨r,hr,by rw [decide_eq_false (fun z => z e)]⟩))
    . have h1:allR rs ≠ []:=fun z => hb (.inl z)
      have h2:1 <= vs.length:=by rw [e1]; exact List.length_pos_iff.mpr h1
      refine ⟨_,rfl,.inl ⟨lr,vs,_,rfl,hvs,pb,h2,by omega,fun b hm => ?_,fun l' H' hl' sm hv' => q3 (by rw [cnt_all]; exact hcm) hb l' H' ((s2.trans sG).free hl') ((s2.trans sG).trans sm) ⟨vs,hv',Pd.imp pv fun v b f => RunQ.tk f sm.tk⟩⟩⟩
      obtain ⟨r,hr,rfl⟩:=List.mem_map.mp hm
      exact decide_eq_true fun e => hb (.inr ⟨r,hr,e⟩)
theorem ok_cell_at (T:Bl mg) (d:Df K mg "_law_cell_at" s_cell_at ["_law_script","_law_k"]  ) (W:XmS mg xt x1 x4) (R_NoNet:XrS K xt x1 x4 x1 1) (R_TooMany:XrS K xt x1 x4 x4 4):Okf P w K mg base (k + 1) "_law_cell_at" ["_law_script","_law_k"] (spCell K):=by
  refine Okf.of d sc_cell_at (fun vs H Q E h => ?_) (fun f cdv A outer s H vs Q E hr h => ?_)
  . obtain ⟨a,ns,k',rfl,_⟩:=h
    rfl
  . obtain ⟨a,ns,k',rfl,hS,h0,q⟩:=h
    refine ⟨_,(@pss_cons _ _ _ _ _ (@ps_if _ _ _ _ _ _ _ _ (@pt_cmpR _ _ _ _ _ _ _ _ op_lt (pv 1) (@pe_callB _ _ _ _ _ _ _ _ _ c_len rfl T.z_len bt_len (@pa_cons _ _ _ _ _ (pv 0) (@pa_nil _) (by rfl)) (by decide) (by decide) (by rfl) (by rfl)) (nomark _)) (@pss_one _ _ _ (@ps_ret _ _ _ _ (@pe_ix _ _ _ _ _ _ _ ix_LT (pv 0) (pv 1) (fun _ _ => rfl)))) (@pss_nil _)) (@pss_one _ _ _ (@ps_ret _ _ _ _ (@pe_int _ _ _ _)))),?_⟩
    walk_at "go"
    refine r_lenL hS ?_
    walk_at "go"
    refine i_d (fun c => ?_) (fun c => ?_)
    . rw [List.length_map] at c
      obtain ⟨z,_,hz⟩:=pick (ns:=ns) h0 c
      walk_at "go"
      refine r_ixs hS hz ?_
      walk_at "go"
      exact q z
    . walk_at "go"
      exact q 0
set_option maxHeartbeats 0 in
theorem ok_number (T:Bl mg) (d:Df K mg "_law_number" s_number ["_law_script","_law_k"]  ) (W:XmS mg xt x1 x4) (R_NoNet:XrS K xt x1 x4 x1 1) (R_TooMany:XrS K xt x1 x4 x4 4) (o_cell_at:Okf P w K mg base k "_law_cell_at" ["_law_script","_law_k"] (spCell K)):Okf P w K mg base (k + 1) "_law_number" ["_law_script","_law_k"] (spNumW K):=by
  refine Okf.of d sc_number (fun vs H Q E h => ?_) (fun f cdv A outer s H vs Q E hr h => ?_)
  . obtain ⟨a,ns,k',rfl,_⟩:=h
    rfl
  . obtain ⟨a,ns,k',rfl,hS,h0,hk,q⟩:=h
    refine ⟨_,(@pss_cons _ _ _ _ _ (@ps_set _ _ (i:=2) _ _ _ _ sc_number.nd rfl (by first | exact Or.inl rfl | exact Or.inr rfl) (@pe_callO _ _ _ _ _ _ _ _ _ _ o_cell_at hr rfl (@pa_cons _ _ _ _ _ (pv 0) (@pa_cons _ _ _ _ _ (pv 1) (@pa_nil _) (by rfl)) (by rfl)) (by decide) (by rfl) (by rfl)) (by rfl) (by first | exact .inl rfl | exact .inr rfl | assumption)) (@pss_cons _ _ _ _ _ (@ps_if _ _ _ _ _ _ _ _ (@PW.pt _ _ _ (@pw_and _ _ _ _ _ _ _ (@pt_cmpR _ _ _ _ _ _ _ _ (op_eqA hr.units) (@pe_op _ _ _ _ _ _ _ _ op_mod (@pe_callO _ _ _ _ _ _ _ _ _ _ o_cell_at hr rfl (@pa_cons _ _ _ _ _ (pv 0) (@pa_cons _ _ _ _ _ (@pe_int _ _ _ _) (@pa_nil _) (by rfl)) (by rfl)) (by decide) (by rfl) (by rfl)) (@pe_int _ _ _ _)) (@pe_int _ _ _ _) (nomark _)) (@pw_and1 _ _ _ _ (@pt_cmpR _ _ _ _ _ _ _ _ op_ge (pv 2) (@pe_op _ _ _ _ _ _ _ _ op_pow (@pe_int _ _ _ _) (@pe_int _ _ _ _)) (nomark _))))) (@pss_one _ _ _ (@ps_ret _ _ _ _ (pv 2))) (@pss_nil _)) (@pss_cons _ _ _ _ _ (@ps_set _ _ (i:=3) _ _ _ _ sc_number.nd rfl (by first | exact Or.inl rfl | exact Or.inr rfl) (@pe_op _ _ _ _ _ _ _ _ op_mod (@pe_op _ _ _ _ _ _ _ _ op_mulB (@pe_op _ _ _ _ _ _ _ _ op_addA (@pe_op _ _ _ _ _ _ _ _ op_addA (@pe_op _ _ _ _ _ _ _ _ op_mod (pv 2) (@pe_int _ _ _ _)) (@pe_op _ _ _ _ _ _ _ _ op_mulB (@pe_op _ _ _ _ _ _ _ _ op_mulB (@pe_int _ _ _ _) (pv 1)) (pv 1))) (@pe_int _ _ _ _)) (@pe_int _ _ _ _)) (@pe_int _ _ _ _)) (by rfl) (by first | exact .inl rfl | exact .inr rfl | assumption)) (@pss_cons _ _ _ _ _ (@ps_set _ _ (i:=4) _ _ _ _ sc_number.nd rfl (by first | exact Or.inl rfl | exact Or.inr rfl) (@pe_op _ _ _ _ _ _ _ _ op_mod (@pe_op _ _ _ _ _ _ _ _ op_mulB (pv 3) (@pe_op _ _ _ _ _ _ _ _ op_addA (@pe_op _ _ _ _ _ _ _ _ op_mod (pv 3) (@pe_int _ _ _ _)) (@pe_int _ _ _ _))) (@pe_int _ _ _ _)) (by rfl) (by first | exact .inl rfl | exact .inr rfl | assumption)) (@pss_cons _ _ _ _ _ (@ps_set _ _ (i:=5) _ _ _ _ sc_number.nd rfl (by first | exact Or.inl rfl | exact Or.inr rfl) (@pe_op _ _ _ _ _ _ _ _ op_mod (@pe_op _ _ _ _ _ _ _ _ op_mulB (@pe_op _ _ _ _ _ _ _ _ op_addA (pv 4) (@pe_op _ _ _ _ _ _ _ _ op_mulB (@pe_op _ _ _ _ _ _ _ _ op_mulB (@pe_int _ _ _ _) (pv 1)) (pv 1))) (@pe_op _ _ _ _ _ _ _ _ op_addA (@pe_op _ _ _ _ _ _ _ _ op_mod (pv 3) (@pe_int _ _ _ _)) (@pe_int _ _ _ _))) (@pe_int _ _ _ _)) (by rfl) (by first | exact .inl rfl | exact .inr rfl | assumption)) (@pss_cons _ _ _ _ _ (@ps_set _ _ (i:=6) _ _ _ _ sc_number.nd rfl (by first | exact Or.inl rfl | exact Or.inr rfl) (@pe_op _ _ _ _ _ _ _ _ op_addA (@pe_op _ _ _ _ _ _ _ _ op_mulB (@pe_op _ _ _ _ _ _ _ _ op_addA (@pe_op _ _ _ _ _ _ _ _ op_mulB (pv 3) (@pe_int _ _ _ _)) (pv 4)) (@pe_int _ _ _ _)) (pv 5)) (by rfl) (by first | exact .inl rfl | exact .inr rfl | assumption)) (@pss_cons _ _ _ _ _ (@ps_if _ _ _ _ _ _ _ _ (@pt_cmpR _ _ _ _ _ _ _ _ (op_eqA hr.units) (@pe_op _ _ _ _ _ _ _ _ op_mod (@pe_callO _ _ _ _ _ _ _ _ _ _ o_cell_at hr rfl (@pa_cons _ _ _ _ _ (pv 0) (@pa_cons _ _ _ _ _ (@pe_int _ _ _ _) (@pa_nil _) (by rfl)) (by rfl)) (by decide) (by rfl) (by rfl)) (@pe_int _ _ _ _)) (@pe_int _ _ _ _) (nomark _)) (@pss_one _ _ _ (@ps_ret _ _ _ _ (@pe_op _ _ _ _ _ _ _ _ op_addA (@pe_op _ _ _ _ _ _ _ _ op_mulB (pv 6) (@pe_op _ _ _ _ _ _ _ _ op_pow (@pe_int _ _ _ _) (@pe_int _ _ _ _))) (@pe_op _ _ _ _ _ _ _ _ op_mod (pv 2) (@pe_op _ _ _ _ _ _ _ _ op_pow (@pe_int _ _ _ _) (@pe_int _ _ _ _)))))) (@pss_nil _)) (@pss_one _ _ _ (@ps_ret _ _ _ _ (pv 6)))))))))),?_⟩
    walk_at "go"
    refine ⟨a,ns,k',rfl,hS,h0,fun c => ?_⟩
    walk_at "go"
    refine ⟨a,ns,0,rfl,hS,Int.le_refl 0,fun c0 => ?_⟩
    walk_at "go"
    refine i_d (fun e1 => ?_) (fun e1 => ?_)
    . walk_at "go"
      refine i_d (fun e2 => ?_) (fun e2 => ?_)
      . walk_at "go"
        exact q _ (by omega)
      . walk_at "go"
        refine ⟨a,ns,0,rfl,hS,Int.le_refl 0,fun c1 => ?_⟩
        walk_at "go"
        have hone:∀ z:Int,0 <= z % 2147483629:=fun z => Int.emod_nonneg z (by decide)
        have htwo:∀ z:Int,0 <= z % 2147483587:=fun z => Int.emod_nonneg z (by decide)
        have hthr:∀ z:Int,0 <= z % 2147483543:=fun z => Int.emod_nonneg z (by decide)
        have h1:=hone ((c % 2147483647 + 7919 * k' * k' + 11) * 69621)
        generalize (c % 2147483647 + 7919 * k' * k' + 11) * 69621 % 2147483629 = one at h1 ⊢
        have h2:=htwo (one * (one % 65521 + 48271))
        generalize one * (one % 65521 + 48271) % 2147483587 = two at h2 ⊢
        have h3:=hthr ((two + 40692 * k' * k') * (one % 7919 + 39373))
        generalize (two + 40692 * k' * k') * (one % 7919 + 39373) % 2147483543 = thr at h3 ⊢
        refine i_d (fun e3 => ?_) (fun e3 => ?_)
        . walk_at "go"
          exact q _ (nn_b (nn_a h1 h2 h3))
        . walk_at "go"
          exact q _ (nn_a h1 h2 h3)
    . walk_at "go"
      refine ⟨a,ns,0,rfl,hS,Int.le_refl 0,fun c1 => ?_⟩
      walk_at "go"
      have hone:∀ z:Int,0 <= z % 2147483629:=fun z => Int.emod_nonneg z (by decide)
      have htwo:∀ z:Int,0 <= z % 2147483587:=fun z => Int.emod_nonneg z (by decide)
      have hthr:∀ z:Int,0 <= z % 2147483543:=fun z => Int.emod_nonneg z (by decide)
      have h1:=hone ((c % 2147483647 + 7919 * k' * k' + 11) * 69621)
      generalize (c % 2147483647 + 7919 * k' * k' + 11) * 69621 % 2147483629 = one at h1 ⊢
      have h2:=htwo (one * (one % 65521 + 48271))
      generalize one * (one % 65521 + 48271) % 2147483587 = two at h2 ⊢
      have h3:=hthr ((two + 40692 * k' * k') * (one % 7919 + 39373))
      generalize (two + 40692 * k' * k') * (one % 7919 + 39373) % 2147483543 = thr at h3 ⊢
      refine i_d (fun e3 => ?_) (fun e3 => ?_)
      . walk_at "go"
        exact q _ (nn_b (nn_a h1 h2 h3))
      . walk_at "go"
        exact q _ (nn_a h1 h2 h3)
theorem ok_lowest (T:Bl mg) (d:Df K mg "_law_lowest" s_lowest ["_law_top","_law_bottom"]  ) (W:XmS mg xt x1 x4) (R_NoNet:XrS K xt x1 x4 x1 1) (R_TooMany:XrS K xt x1 x4 x4 4):Okf P w K mg base (k + 1) "_law_lowest" ["_law_top","_law_bottom"] spLowest:=by
  refine Okf.of d sc_lowest (fun vs H Q E h => ?_) (fun f cdv A outer s H vs Q E hr h => ?_)
  . obtain ⟨t,b,rfl,_⟩:=h
    rfl
  . obtain ⟨t,b,rfl,hb,hs1,hs2,q⟩:=h
    refine ⟨_,(@pss_cons _ _ _ _ _ (@ps_set _ _ (i:=2) _ _ _ _ sc_lowest.nd rfl (by first | exact Or.inl rfl | exact Or.inr rfl) (@pe_callB _ _ _ _ _ _ _ _ _ c_abs rfl T.z_abs bt_abs (@pa_cons _ _ _ _ _ (pv 0) (@pa_nil _) (by rfl)) (by decide) (by decide) (by rfl) (by rfl)) (by rfl) (by first | exact .inl rfl | exact .inr rfl | assumption)) (@pss_cons _ _ _ _ _ (@ps_set _ _ (i:=3) _ _ _ _ sc_lowest.nd rfl (by first | exact Or.inl rfl | exact Or.inr rfl) (pv 1) (by rfl) (by first | exact .inl rfl | exact .inr rfl | assumption)) (@pss_cons _ _ _ _ _ (@ps_while _ _ _ _ _ _ PassesOwn.never (@pt_cmpR _ _ _ _ _ _ _ _ (op_neA hr.units) (pv 3) (@pe_int _ _ _ _) (nomark _)) (@pss_one _ _ _ (@ps_par _ _ (i:=2) (j:=3) _ _ _ _ _ _ _ _ _ _ _ rfl sc_lowest.nd rfl rfl (by decide) rfl rfl (@pa_cons _ _ _ _ _ (pv 3) (@pa_cons _ _ _ _ _ (@pe_op _ _ _ _ _ _ _ _ op_mod (pv 2) (pv 3)) (@pa_nil _) (by rfl)) (by rfl)) rfl (by rfl)))) (@pss_one _ _ _ (@ps_ret _ _ _ _ (@pe_tup _ _ _ _ _ (@pa_cons _ _ _ _ _ (@pe_op _ _ _ _ _ _ _ _ op_fdivB (pv 0) (pv 2)) (@pa_cons _ _ _ _ _ (@pe_op _ _ _ _ _ _ _ _ op_fdivB (pv 1) (pv 2)) (@pa_nil _) (by rfl)) (by rfl)))))))),?_⟩
    walk_at "go"
    refine while_by (fun σ H' => ∃ one other:Int,σ = [some (.int t),some (.int b),some (.int one),some (.int other)] /\ H' = H /\ 0 <= one /\ 0 <= other /\ Int.gcd one other = Int.gcd t b)
      (fun σ _ => match σ with | [_,_,_,some (.int z)] => z.toNat | _ => 0) ⟨_,_,rfl,rfl,by split <;> omega,by omega,?_⟩ ?_ ?_
    . have e:∀ z:Int,(if z < 0 then -z else z) = (z.natAbs:Int):=fun z => by split <;> omega
      rw [e]
      simp [Int.gcd]
    . rintro σ H' ⟨one,other,rfl,rfl,h1,h2,hg⟩
      walk_at "go"
      refine i_d (fun c => ?_) (fun c => ?_)
      . subst c
        have e1:one = (Int.gcd t b:Int):=by rw [← hg,Int.gcd_zero_right]; omega
        have hb0:b ≠ 0:=by omega
        have hgb:(Int.gcd t b:Int).natAbs <= b.natAbs:=by
          have:=Nat.le_of_dvd (by omega) (Int.gcd_dvd_natAbs_right t b)
          omega
        subst e1
        walk_at "go"
        have es:(Int.gcd t b:Int) = sg t b:=by unfold sg; rw [if_neg (by omega)]
        rw [es]
        have hc:∀ z,CDivB z (sg t b):=fun _ => ⟨sg_ne hb0,Sm.le (by rw [sg_natAbs]; omega) hs2⟩
        refine r_fdiv (hc _) ?_
        walk_at "go"
        refine r_fdiv (hc _) ?_
        walk_at "go"
        refine r_tupK fun p hp => ?_
        walk_at "go"
        exact q p hp
      . walk_at "go"
        refine ⟨⟨_,_,rfl,rfl,h2,Int.emod_nonneg _ (by omega),by rw [gcd_step (by omega)]; exact hg⟩,?_⟩
        have:=Int.emod_lt_of_pos one (show 0 < other by omega)
        show (one % other).toNat < other.toNat
        omega
    . intro σ H Q Q' hQ h
      obtain ⟨v,e1,h⟩:=h
      rcases h with ⟨e2,b',e3,q'⟩ | ⟨d,e,e2,e3,e4,e5,b',e6,q'⟩
      . exact ⟨v,e1,.inl ⟨e2,b',e3,hQ _ _ q'⟩⟩
      . exact ⟨v,e1,.inr ⟨d,e,e2,e3,e4,e5,b',e6,hQ _ _ q'⟩⟩
set_option maxHeartbeats 0 in
theorem ok_names (T:Bl mg) (d:Df K mg "_law_names" s_names ["_law_script"]  ) (W:XmS mg xt x1 x4) (R_NoNet:XrS K xt x1 x4 x1 1) (R_TooMany:XrS K xt x1 x4 x4 4) (o_number:Okf P w K mg base k "_law_number" ["_law_script","_law_k"] (spNumW K)):Okf P w K mg base (k + 1) "_law_names" ["_law_script"] (spNames73 K):=by
  refine Okf.of d sc_names (fun vs H Q E h => ?_) (fun f cdv A outer s H vs Q E hr h => ?_)
  . obtain ⟨a,ns,rfl,_⟩:=h
    rfl
  . obtain ⟨a,ns,rfl,hS,q⟩:=h
    refine ⟨_,(@pss_cons _ _ _ _ _ (@ps_set _ _ (i:=1) _ _ _ _ sc_names.nd rfl (by first | exact Or.inl rfl | exact Or.inr rfl) (@pe_str _ _ _ _) (by rfl) (by first | exact .inl rfl | exact .inr rfl | assumption)) (@pss_cons _ _ _ _ _ (@ps_set _ _ (i:=2) _ _ _ _ sc_names.nd rfl (by first | exact Or.inl rfl | exact Or.inr rfl) (@pe_callO _ _ _ _ _ _ _ _ _ _ o_number hr rfl (@pa_cons _ _ _ _ _ (pv 0) (@pa_cons _ _ _ _ _ (@pe_int _ _ _ _) (@pa_nil _) (by rfl)) (by rfl)) (by decide) (by rfl) (by rfl)) (by rfl) (by first | exact .inl rfl | exact .inr rfl | assumption)) (@pss_cons _ _ _ _ _ (@ps_set _ _ (i:=3) _ _ _ _ sc_names.nd rfl (by first | exact Or.inl rfl | exact Or.inr rfl) (@pe_slice _ _ _ _ _ _ _ _ _ _ sl_str (pv 1) (@po_none _) (@po_some _ _ _ (@pe_op _ _ _ _ _ _ _ _ op_mod (pv 2) (@pe_int _ _ _ _)))) (by rfl) (by first | exact .inl rfl | exact .inr rfl | assumption)) (@pss_cons _ _ _ _ _ (@ps_set _ _ (i:=4) _ _ _ _ sc_names.nd rfl (by first | exact Or.inl rfl | exact Or.inr rfl) (@pe_op _ _ _ _ _ _ _ _ op_mulS (@pe_ix _ _ _ _ _ _ _ ix_LT (pv 1) (@pe_op _ _ _ _ _ _ _ _ op_mod (@pe_op _ _ _ _ _ _ _ _ op_fdivB (pv 2) (@pe_int _ _ _ _)) (@pe_int _ _ _ _)) (fun _ _ => rfl)) (@pe_op _ _ _ _ _ _ _ _ op_mod (@pe_op _ _ _ _ _ _ _ _ op_fdivB (pv 2) (@pe_int _ _ _ _)) (@pe_int _ _ _ _))) (by rfl) (by first | exact .inl rfl | exact .inr rfl | assumption)) (@pss_one _ _ _ (@ps_ret _ _ _ _ (@pe_comp _ _ _ _ _ _ _ _ _ _ _ _ _ _ (@comp_ck _ _ (sc:=defScope s_names) (N:=["_law_script","_law_letters","_law_number_here","_law_before","_law_behind"]) (tn:=["_law_k"]) (names:=["_law_number_here","_law_letters","_law_behind","_law_before"]) (is:=[2,1,4,3]) rfl rfl (by decide +kernel) (by decide +kernel) rfl (by decide +kernel) rfl (by decide +kernel) (by decide +kernel) (by decide +kernel)) rfl (@pi_range1 _ _ _ _ _ _ rfl T.z_range (@pa_cons _ _ _ _ _ (@pe_int _ _ _ _) (@pa_nil _) (by rfl)) (by rfl)) (fun _ _ _ _ => (@pg_name _ _ (i:=0) _ (show (["_law_k","_law_number_here","_law_letters","_law_behind","_law_before"]:List Str).Nodup by decide +kernel) rfl (Or.inl rfl) (Or.inr rfl))) (fun _ _ _ _ => (@pe_op _ _ _ _ _ _ _ _ op_addAc (@pe_op _ _ _ _ _ _ _ _ op_addAc (pv 4) (@pe_ix _ _ _ _ _ _ _ ix_LTc (pv 2) (@pe_op _ _ _ _ _ _ _ _ op_mod (@pe_op _ _ _ _ _ _ _ _ op_addAc (@pe_op _ _ _ _ _ _ _ _ op_fdivB (pv 1) (@pe_int _ _ _ _)) (@pe_op _ _ _ _ _ _ _ _ op_mulB (@pe_int _ _ _ _) (pv 0))) (@pe_int _ _ _ _)) (fun _ _ => rfl))) (pv 3))) (fun _ _ _ _ => (@pts_none _)) (by intro _; rfl)))))))),?_⟩
    have h26:abc.length <= 100000:=by rw [abc_len]; decide
    walk_at "go"
    refine ⟨a,ns,1,rfl,hS,by decide,by decide,fun r hr => ?_⟩
    walk_at "go"
    obtain ⟨i,hi,ei⟩:∃ i:Nat,i < 4 /\ r % 4 = i:=⟨(r % 4).toNat,by omega,by omega⟩
    rw [ei]
    refine r_slSe h26 ?_
    obtain ⟨lb,Lb⟩:=sl4 i hi
    generalize Txt.slice abc none (some (i:Int)) = bef at lb Lb ⊢
    walk_at "go"
    obtain ⟨j,hj,ej⟩:∃ j:Nat,j < 26 /\ r.fdiv 4 % 26 = (j:Int):=⟨(r.fdiv 4 % 26).toNat,by omega,by omega⟩
    rw [ej]
    refine r_ixS h26 (abc_at j hj) ?_
    walk_at "go"
    have m0:0 <= r.fdiv 104 % 5 /\ r.fdiv 104 % 5 < 5:=by omega
    generalize r.fdiv 104 % 5 = mm at m0 ⊢
    have l1:∀ c:Nat,(⟨#[c]⟩:Str).length = 1:=fun _ => rfl
    refine ⟨_,_,rfl,rfl,m0.1,by omega,by rw [l1]; decide,fun beh hb => ?_⟩
    obtain ⟨lh,Lh⟩:=rep_let hb (l1 _) (LetS.one (by omega) (by omega))
    clear hb
    walk_at "go"
    refine ⟨8,rfl,by decide,by decide,?_⟩
    refine r_compR (n:=8) (by omega) (fun acc k ys G => Kp acc H G /\ ∃ U:List Str,ys = U.map V.str /\ ∀ s ∈ U,partB s = true) ?_ ?_ ?_
    . intro acc h0
      exact ⟨Kp.new h0,[],rfl,fun _ h => nomatch h⟩
    . rintro acc k ys G h0 hk hyl hG ⟨kp,U,rfl,hU⟩
      walk_at "go"
      obtain ⟨o,ho,eo⟩:∃ j:Nat,j < 26 /\ (r.fdiv 520 + 3 * (0 + (k:Int))) % 26 = (j:Int):=⟨((r.fdiv 520 + 3 * (0 + (k:Int))) % 26).toNat,by omega,by omega⟩
      rw [eo]
      refine r_ixS h26 (abc_at o ho) ?_
      refine r_addS (by rw [l1]; omega) ?_
      walk_at "go"
      refine r_addS (by rw [len_app,l1]; omega) ?_
      refine c_next hk hyl hG ⟨kp.trans Kp.upd,U ++ [bef ++ ⟨#[97 + o]⟩ ++ beh],by simp,fun s hs => ?_⟩
      rcases List.mem_append.mp hs with h | h
      . exact hU s h
      . rw [List.mem_singleton.mp h]
        exact partB_of (by rw [len_app,len_app,l1]; omega) (by rw [len_app,len_app,l1]; omega) ((Lb.app (LetS.one (by omega) (by omega))).app Lh)
    rintro acc ys G h0 hG hyl ⟨kp,U,rfl,hU⟩
    rw [List.length_map] at hyl
    walk_at "go"
    exact q acc G U h0 (fun b o h => kp _ _ (ne_of_none h h0) h) hG hyl hU
set_option maxHeartbeats 0 in
theorem ok_post (T:Bl mg) (d:Df K mg "_law_post" s_post ["_law_number_here","_law_names_here"]  ) (W:XmS mg xt x1 x4) (R_NoNet:XrS K xt x1 x4 x1 1) (R_TooMany:XrS K xt x1 x4 x4 4):Okf P w K mg base (k + 1) "_law_post" ["_law_number_here","_law_names_here"] spPost73:=by
  refine Okf.of d sc_post (fun vs H Q E h => ?_) (fun f cdv A outer s H vs Q E hr h => ?_)
  . obtain ⟨c,ln,U,rfl,_⟩:=h
    rfl
  . obtain ⟨c,ln,U,rfl,hc,hln,hUl,hU,q⟩:=h
    refine ⟨_,(@pss_cons _ _ _ _ _ (@ps_set _ _ (i:=2) _ _ _ _ sc_post.nd rfl (by first | exact Or.inl rfl | exact Or.inr rfl) (@pe_op _ _ _ _ _ _ _ _ op_mod (pv 0) (@pe_int _ _ _ _)) (by rfl) (by first | exact .inl rfl | exact .inr rfl | assumption)) (@pss_cons _ _ _ _ _ (@ps_set _ _ (i:=3) _ _ _ _ sc_post.nd rfl (by first | exact Or.inl rfl | exact Or.inr rfl) (@pe_op _ _ _ _ _ _ _ _ op_mod (@pe_op _ _ _ _ _ _ _ _ op_fdivB (pv 0) (@pe_int _ _ _ _)) (@pe_int _ _ _ _)) (by rfl) (by first | exact .inl rfl | exact .inr rfl | assumption)) (@pss_cons _ _ _ _ _ (@ps_if _ _ _ _ _ _ _ _ (@pt_cmpR _ _ _ _ _ _ _ _ op_lt (pv 2) (@pe_int _ _ _ _) (nomark _)) (@pss_one _ _ _ (@ps_ret _ _ _ _ (@pe_ix _ _ _ _ _ _ _ ix_LT (pv 1) (pv 3) (fun _ _ => rfl)))) (@pss_nil _)) (@pss_cons _ _ _ _ _ (@ps_if _ _ _ _ _ _ _ _ (@pt_cmpR _ _ _ _ _ _ _ _ (op_eqA hr.units) (pv 2) (@pe_int _ _ _ _) (nomark _)) (@pss_one _ _ _ (@ps_ret _ _ _ _ (@pe_op _ _ _ _ _ _ _ _ op_addA (@pe_op _ _ _ _ _ _ _ _ op_addA (@pe_ix _ _ _ _ _ _ _ ix_LT (pv 1) (pv 3) (fun _ _ => rfl)) (@pe_str _ _ _ _)) (@pe_ix _ _ _ _ _ _ _ ix_LT (pv 1) (@pe_op _ _ _ _ _ _ _ _ op_mod (@pe_op _ _ _ _ _ _ _ _ op_fdivB (pv 0) (@pe_int _ _ _ _)) (@pe_int _ _ _ _)) (fun _ _ => rfl))))) (@pss_nil _)) (@pss_cons _ _ _ _ _ (@ps_setC _ _ _ _ _ _ _ _ _ _ _ _ _ _ (i:=4) _ _ _ sc_post.nd rfl (by first | exact Or.inl rfl | exact Or.inr rfl) (@comp_ck _ _ (sc:=defScope s_post) (N:=["_law_number_here","_law_names_here","_law_kind","_law_first","_law_more"]) (tn:=["_law_k"]) (names:=["_law_number_here","_law_names_here","_law_first"]) (is:=[0,1,3]) rfl rfl (by decide +kernel) (by decide +kernel) rfl (by decide +kernel) rfl (by decide +kernel) (by decide +kernel) (by decide +kernel)) rfl (@pi_range1 _ _ _ _ _ _ rfl T.z_range (@pa_cons _ _ _ _ _ (@pe_op _ _ _ _ _ _ _ _ op_addA (@pe_int _ _ _ _) (@pe_op _ _ _ _ _ _ _ _ op_mod (@pe_op _ _ _ _ _ _ _ _ op_fdivB (pv 0) (@pe_int _ _ _ _)) (@pe_int _ _ _ _))) (@pa_nil _) (by rfl)) (by rfl)) (fun _ _ _ _ => (@pg_name _ _ (i:=0) _ (show (["_law_k","_law_number_here","_law_names_here","_law_first"]:List Str).Nodup by decide +kernel) rfl (Or.inl rfl) (Or.inr rfl))) (fun _ _ _ _ => (@pe_ix _ _ _ _ _ _ _ ix_LTc (pv 2) (@pe_op _ _ _ _ _ _ _ _ op_mod (@pe_op _ _ _ _ _ _ _ _ op_addAc (@pe_op _ _ _ _ _ _ _ _ op_addAc (pv 3) (@pe_int _ _ _ _)) (@pe_op _ _ _ _ _ _ _ _ op_mulB (@pe_op _ _ _ _ _ _ _ _ op_mod (@pe_op _ _ _ _ _ _ _ _ op_fdivB (pv 1) (@pe_int _ _ _ _)) (@pe_int _ _ _ _)) (pv 0))) (@pe_int _ _ _ _)) (fun _ _ => rfl))) (fun _ _ _ _ => (@pts_none _)) (by intro _; rfl) (by rfl) (by first | exact .inl rfl | exact .inr rfl | assumption)) (@pss_one _ _ _ (@ps_ret _ _ _ _ (@pe_bm _ _ _ _ _ _ _ _ _ _ _ _ PySem.F.plainAttrs_str PySem.F.slot_str_join PySem.F.type_str_join mt_join (@pe_str _ _ _ _) (@pa_cons _ _ _ _ _ (@pe_op _ _ _ _ _ _ _ _ op_addA (@pe_lst _ _ _ _ (@pa_cons _ _ _ _ _ (@pe_ix _ _ _ _ _ _ _ ix_LT (pv 1) (pv 3) (fun _ _ => rfl)) (@pa_nil _) (by rfl))) (pv 4)) (@pa_nil _) (by rfl)) (by rfl) (by rfl) (by rfl) (by rfl) (by rfl))))))))),?_⟩
    have ep:(".":Str) = ⟨#[46]⟩:=by decide +kernel
    have one:∀ {s:Str},s ∈ U -> PostS s:=fun {s} hs => by
      have:=join_post (x:=s) (r:=[]) (fun p hp => by rw [List.mem_singleton.mp hp]; exact hU s hs) (by decide)
      exact this
    walk_at "go"
    have i0:0 <= c.fdiv 5 % 8 /\ c.fdiv 5 % 8 < 8:=by omega
    generalize c.fdiv 5 % 8 = fi at i0 ⊢
    obtain ⟨s1,m1,e1⟩:=pickS' (nm:=U) i0.1 (by omega)
    refine i_d (fun c1 => ?_) (fun c1 => ?_)
    . walk_at "go"
      refine r_ixl hln e1 ?_
      walk_at "go"
      exact q _ _ (Same.refl _) (one m1)
    walk_at "go"
    refine i_d (fun c2 => ?_) (fun c2 => ?_)
    . walk_at "go"
      refine r_ixl hln e1 ?_
      walk_at "go"
      obtain ⟨p1,p2,_⟩:=part_facts (hU s1 m1)
      rw [ep]
      have l1:(⟨#[46]⟩:Str).length = 1:=rfl
      refine r_addS (by rw [l1]; omega) ?_
      walk_at "go"
      have i1:0 <= c.fdiv 40 % 8 /\ c.fdiv 40 % 8 < 8:=by omega
      generalize c.fdiv 40 % 8 = fj at i1 ⊢
      obtain ⟨s2,m2,e2⟩:=pickS' (nm:=U) i1.1 (by omega)
      refine r_ixl hln e2 ?_
      obtain ⟨p3,p4,_⟩:=part_facts (hU s2 m2)
      refine r_addS (by rw [len_app,l1]; omega) ?_
      walk_at "go"
      refine q _ _ (Same.refl _) ?_
      have:=join_post (x:=s1) (r:=[s2]) (fun p hp => by
        rcases List.mem_cons.mp hp with rfl | hp
        . exact hU _ m1
        . rw [List.mem_singleton.mp hp]; exact hU _ m2) (show 1 <= 3 by decide)
      rw [show s1 ++ ⟨#[46]⟩ ++ s2 = Str.join ⟨#[46]⟩ [s1,s2] from by
        show Str.mk _ = Str.mk _
        congr 1]
      exact this
    walk_at "go"
    have n0:0 <= c.fdiv 280 % 3 /\ c.fdiv 280 % 3 < 3:=by omega
    generalize c.fdiv 280 % 3 = mm at n0 ⊢
    refine r_rng1K (by omega) (by omega) ?_
    refine r_compR (n:=(1 + mm).toNat) (by omega) (fun acc k ys G => Kp acc H G /\ ∃ r:List Str,ys = r.map V.str /\ ∀ s ∈ r,s ∈ U) ?_ ?_ ?_
    . intro acc h0
      exact ⟨Kp.new h0,[],rfl,fun _ h => nomatch h⟩
    . rintro acc k ys G h0 hk hyl hG ⟨kp,r,rfl,hr'⟩
      walk_at "go"
      obtain ⟨s2,m2,e2⟩:=pickS' (nm:=U) (i:=(fi + 1 + c.fdiv 40 % 7 * (0 + (k:Int))) % 8) (Int.emod_nonneg _ (by decide)) (by have:=Int.emod_lt_of_pos (fi + 1 + c.fdiv 40 % 7 * (0 + (k:Int))) (show (0:Int) < 8 by decide); omega)
      refine r_ixl (kp _ _ (ne_of_none hln h0) hln) e2 ?_
      refine c_next hk hyl hG ⟨kp.trans Kp.upd,r ++ [s2],by simp,fun s hs => ?_⟩
      rcases List.mem_append.mp hs with h | h
      . exact hr' s h
      . rw [List.mem_singleton.mp h]
        exact m2
    rintro acc ys G h0 hG hyl ⟨kp,r,rfl,hr'⟩
    rw [List.length_map] at hyl
    have sG:Same H G:=fun b o h => kp _ _ (ne_of_none h h0) h
    walk_at "go"
    refine r_ixl (sG _ _ hln) e1 ?_
    walk_at "go"
    refine r_lstK fun l2 hl2 => ?_
    have s2:=Same.new (o:=.lst [.str s1]) hl2
    walk_at "go"
    refine a_lst upd_same (s2 _ _ hG) (by rw [List.length_map]; show 1 + _ <= _; omega) fun l3 hl3 => ?_
    rw [show ([V.str s1] ++ r.map V.str) = (s1 :: r).map V.str from rfl]
    walk_at "go"
    rw [ep]
    have hall:∀ p ∈ s1 :: r,partB p = true:=fun p hp => (List.mem_cons.mp hp).elim (fun e => by rw [e]; exact hU _ m1) fun h => hU _ (hr' p h)
    have hsum:=sum_le (cs:=s1 :: r) fun c hc => (part_facts (hall c hc)).2.1
    rw [List.length_cons] at hsum
    refine ⟨_,l3,_,rfl,rfl,upd_same,?_,?_⟩
    . show _ + (s1 :: r).length * 1 <= _
      rw [List.length_cons]
      omega
    walk_at "go"
    exact q _ _ ((sG.trans s2).trans (Same.new hl3)) (join_post hall (by omega))
set_option maxHeartbeats 0 in
theorem ok_time (T:Bl mg) (d:Df K mg "_law_time" s_time ["_law_number_here"]  ) (W:XmS mg xt x1 x4) (R_NoNet:XrS K xt x1 x4 x1 1) (R_TooMany:XrS K xt x1 x4 x4 4) (o_lowest:Okf P w K mg base k "_law_lowest" ["_law_top","_law_bottom"] spLowest):Okf P w K mg base (k + 1) "_law_time" ["_law_number_here"] spTime73:=by
  refine Okf.of d sc_time (fun vs H Q E h => ?_) (fun f cdv A outer s H vs Q E hr h => ?_)
  . obtain ⟨c,rfl,_⟩:=h
    rfl
  . obtain ⟨c,rfl,hc,q⟩:=h
    refine ⟨_,(@pss_cons _ _ _ _ _ (@ps_set _ _ (i:=1) _ _ _ _ sc_time.nd rfl (by first | exact Or.inl rfl | exact Or.inr rfl) (@pe_ix _ _ _ _ _ _ _ ix_LT (@pe_lst _ _ _ _ (@pa_cons _ _ _ _ _ (@pe_int _ _ _ _) (@pa_cons _ _ _ _ _ (@pe_int _ _ _ _) (@pa_cons _ _ _ _ _ (@pe_int _ _ _ _) (@pa_nil _) (by rfl)) (by rfl)) (by rfl))) (@pe_op _ _ _ _ _ _ _ _ op_mod (pv 0) (@pe_int _ _ _ _)) (fun _ _ => rfl)) (by rfl) (by first | exact .inl rfl | exact .inr rfl | assumption)) (@pss_cons _ _ _ _ _ (@ps_set _ _ (i:=2) _ _ _ _ sc_time.nd rfl (by first | exact Or.inl rfl | exact Or.inr rfl) (@pe_int _ _ _ _) (by rfl) (by first | exact .inl rfl | exact .inr rfl | assumption)) (@pss_cons _ _ _ _ _ (@ps_if _ _ _ _ _ _ _ _ (@pt_cmpR _ _ _ _ _ _ _ _ (op_eqA hr.units) (@pe_op _ _ _ _ _ _ _ _ op_mod (@pe_op _ _ _ _ _ _ _ _ op_fdivB (pv 0) (@pe_int _ _ _ _)) (@pe_int _ _ _ _)) (@pe_int _ _ _ _) (nomark _)) (@pss_one _ _ _ (@ps_set _ _ (i:=2) _ _ _ _ sc_time.nd rfl (by first | exact Or.inl rfl | exact Or.inr rfl) (@pe_op _ _ _ _ _ _ _ _ op_addA (@pe_int _ _ _ _) (@pe_op _ _ _ _ _ _ _ _ op_mod (@pe_op _ _ _ _ _ _ _ _ op_fdivB (@pe_op _ _ _ _ _ _ _ _ op_fdivB (pv 0) (@pe_int _ _ _ _)) (pv 1)) (pv 1))) (by rfl) (by first | exact .inl rfl | exact .inr rfl | assumption))) (@pss_nil _)) (@pss_one _ _ _ (@ps_ret _ _ _ _ (@pe_callO _ _ _ _ _ _ _ _ _ _ o_lowest hr rfl (@pa_cons _ _ _ _ _ (@pe_op _ _ _ _ _ _ _ _ op_addA (@pe_int _ _ _ _) (@pe_op _ _ _ _ _ _ _ _ op_mod (@pe_op _ _ _ _ _ _ _ _ op_fdivB (pv 0) (@pe_int _ _ _ _)) (pv 1))) (@pa_cons _ _ _ _ _ (pv 2) (@pa_nil _) (by rfl)) (by rfl)) (by decide) (by rfl) (by rfl))))))),?_⟩
    walk_at "go"
    refine r_lstK fun l4 hl4 => ?_
    have s1:=Same.new (o:=.lst [V.int 9,V.int 30,V.int 999999999999]) hl4
    have hl':=upd_same (H:=H) (a:=l4) (o:=.lst [V.int 9,V.int 30,V.int 999999999999])
    generalize L2.upd H l4 (.lst [V.int 9,V.int 30,V.int 999999999999]) = G2 at s1 hl' ⊢
    walk_at "go"
    obtain ⟨t,et,ht⟩:=at3 (x0:=9) (x1:=30) (x2:=999999999999) (fun z => 0 < z /\ z <= 999999999999) (by decide) (by decide) (by decide) (c % 3) (Int.emod_nonneg _ (by decide)) (Int.emod_lt_of_pos _ (by decide))
    refine r_ixl hl' et ?_
    have fin:∀ b:Int,0 < b -> b <= 999999999999 -> ∀ (p:Addr),G2 p = none -> Q (.ref p) (L2.upd G2 p (.tup [.int (lowT (1 + c.fdiv 6 % t) b),.int (lowB (1 + c.fdiv 6 % t) b)])):=fun b h1 h2 p hp => by
      have m0:=Int.emod_nonneg (c.fdiv 6) (show t ≠ 0 by omega)
      have m1:=Int.emod_lt_of_pos (c.fdiv 6) ht.1
      exact q _ _ _ (s1.trans (Same.new hp)) (FrQ.low (by omega) upd_same) (timR_of (by omega) (by omega) h1 h2)
    have sm:∀ {z:Int},0 <= z -> z <= 10 ^ 12 -> Sm 8000 z:=fun {z} h0 h1 => Nat.lt_of_le_of_lt (show z.natAbs <= 10 ^ 12 by omega) (by decide)
    have m0:=Int.emod_nonneg (c.fdiv 6) (show t ≠ 0 by omega)
    have m1:=Int.emod_lt_of_pos (c.fdiv 6) ht.1
    walk_at "go"
    refine i_d (fun c1 => ?_) (fun c1 => ?_)
    . walk_at "go"
      have n0:=Int.emod_nonneg ((c.fdiv 6).fdiv t) (show t ≠ 0 by omega)
      have n1:=Int.emod_lt_of_pos ((c.fdiv 6).fdiv t) ht.1
      generalize (c.fdiv 6).fdiv t % t = bb at n0 n1 ⊢
      exact ⟨_,_,rfl,by omega,sm (by omega) (by omega),sm (by omega) (by omega),fin _ (by omega) (by omega)⟩
    . walk_at "go"
      exact ⟨_,_,rfl,by omega,sm (by omega) (by omega),sm (by omega) (by omega),fin _ (by omega) (by omega)⟩
set_option maxHeartbeats 0 in
theorem ok_posts (T:Bl mg) (d:Df K mg "_law_posts" s_posts ["_law_number_here","_law_names_here","_law_many"]  ) (W:XmS mg xt x1 x4) (R_NoNet:XrS K xt x1 x4 x1 1) (R_TooMany:XrS K xt x1 x4 x4 4) (o_post:Okf P w K mg base k "_law_post" ["_law_number_here","_law_names_here"] spPost73):Okf P w K mg base (k + 1) "_law_posts" ["_law_number_here","_law_names_here","_law_many"] spPosts73:=by
  refine Okf.of d sc_posts (fun vs H Q E h => ?_) (fun f cdv A outer s H vs Q E hr h => ?_)
  . obtain ⟨c,ln,U,m,rfl,_⟩:=h
    rfl
  . obtain ⟨c,ln,U,m,rfl,hc,hln,hUl,hU,hm,q⟩:=h
    refine ⟨_,(@pss_cons _ _ _ _ _ (@ps_set _ _ (i:=3) _ _ _ _ sc_posts.nd rfl (by first | exact Or.inl rfl | exact Or.inr rfl) (@pe_lst _ _ _ _ (@pa_nil _)) (by rfl) (by first | exact .inl rfl | exact .inr rfl | assumption)) (@pss_cons _ _ _ _ _ (@ps_for _ _ _ _ _ _ _ _ PassesOwn.never rfl (@pi_range1 _ _ _ _ _ _ rfl T.z_range (@pa_cons _ _ _ _ _ (pv 2) (@pa_nil _) (by rfl)) (by rfl)) (@pg_name _ _ (i:=4) _ sc_posts.nd rfl (by first | exact Or.inl rfl | exact Or.inr rfl) (by first | exact .inl rfl | exact .inr rfl | assumption)) (@pss_cons _ _ _ _ _ (@ps_expr _ _ _ _ (@pe_bm _ _ _ _ _ _ _ _ _ _ _ _ PySem.F.plainAttrs_list PySem.F.slot_list_append PySem.F.type_list_append mt_append (pv 3) (@pa_cons _ _ _ _ _ (@pe_callO _ _ _ _ _ _ _ _ _ _ o_post hr rfl (@pa_cons _ _ _ _ _ (pv 0) (@pa_cons _ _ _ _ _ (pv 1) (@pa_nil _) (by rfl)) (by rfl)) (by decide) (by rfl) (by rfl)) (@pa_nil _) (by rfl)) (by rfl) (by rfl) (by rfl) (by rfl) (by rfl)) (by rfl)) (@pss_one _ _ _ (@ps_set _ _ (i:=0) _ _ _ _ sc_posts.nd rfl (by first | exact Or.inl rfl | exact Or.inr rfl) (@pe_op _ _ _ _ _ _ _ _ op_fdivB (pv 0) (@pe_int _ _ _ _)) (by rfl) (by first | exact .inl rfl | exact .inr rfl | assumption)))) (by intro _; rfl)) (@pss_one _ _ _ (@ps_ret _ _ _ _ (@pe_callTy _ _ _ _ _ _ _ _ _ call_tuple_of rfl T.z_tuple bt_tuple (@pa_cons _ _ _ _ _ (pv 3) (@pa_nil _) (by rfl)) (by decide) (by decide) (by rfl) (by rfl)))))),?_⟩
    walk_at "go"
    refine r_lstK fun l0 hl0 => ?_
    walk_at "go"
    refine r_rng1K (by omega) (by omega) ?_
    rw [Int.toNat_natCast]
    refine r_forR (n:=m) (fun i σ G => ∃ (c:Int) (ps:List Str) (o4:Option V),σ = [some (.int c),some (.ref ln),some (.int (m:Int)),some (.ref l0),o4] /\ 0 <= c /\ Kp l0 H G /\ G l0 = some (.lst (ps.map V.str)) /\ ps.length = i /\ ∀ s ∈ ps,PostS s) ⟨c,[],_,rfl,hc,Kp.new hl0,upd_same,rfl,fun _ h => nomatch h⟩ ?_ ?_
    . rintro i σ G hi ⟨c,ps,o4,rfl,hc,kp,hG,hpl,hps⟩
      have hnl:=ne_of_none hln hl0
      walk_at "go"
      refine ⟨c,ln,U,rfl,hc,kp _ _ hnl hln,hUl,hU,fun s G1 s1 ps1 => ?_⟩
      walk_at "go"
      refine r_app (s1 _ _ hG) (by rw [List.length_map]; omega) ?_
      walk_at "go"
      refine ⟨c.fdiv 840,ps ++ [s],_,rfl,fdiv_nn hc (by decide),(kp.trans s1.kp).trans Kp.upd,by rw [List.map_append]; exact upd_same,by rw [List.length_append,hpl]; rfl,fun x hx => ?_⟩
      rcases List.mem_append.mp hx with h | h
      . exact hps x h
      . rw [List.mem_singleton.mp h]
        exact ps1
    rintro σ G ⟨c,ps,o4,rfl,hc,kp,hG,hpl,hps⟩
    walk_at "go"
    refine ⟨l0,_,rfl,.inl ⟨SqL.of hG,fun p hp => ?_⟩⟩
    walk_at "go"
    have sG:Same H G:=fun b o h => kp _ _ (ne_of_none h hl0) h
    exact q p _ ps (sG.trans (Same.new hp)) upd_same hpl hps
set_option maxHeartbeats 0 in
theorem ok_plain (T:Bl mg) (d:Df K mg "_law_plain" s_plain ["_law_number_here","_law_names_here"]  ) (W:XmS mg xt x1 x4) (R_NoNet:XrS K xt x1 x4 x1 1) (R_TooMany:XrS K xt x1 x4 x4 4) (o_time:Okf P w K mg base k "_law_time" ["_law_number_here"] spTime73) (o_posts:Okf P w K mg base k "_law_posts" ["_law_number_here","_law_names_here","_law_many"] spPosts73):Okf P w K mg base (k + 1) "_law_plain" ["_law_number_here","_law_names_here"] spPlain73:=by
  refine Okf.of d sc_plain (fun vs H Q E h => ?_) (fun f cdv A outer s H vs Q E hr h => ?_)
  . obtain ⟨c,ln,U,rfl,_⟩:=h
    rfl
  . obtain ⟨c,ln,U,rfl,hc,hln,hUl,hU,q⟩:=h
    refine ⟨_,(@pss_cons _ _ _ _ _ (@ps_set _ _ (i:=2) _ _ _ _ sc_plain.nd rfl (by first | exact Or.inl rfl | exact Or.inr rfl) (@pe_op _ _ _ _ _ _ _ _ op_mod (pv 0) (@pe_int _ _ _ _)) (by rfl) (by first | exact .inl rfl | exact .inr rfl | assumption)) (@pss_cons _ _ _ _ _ (@ps_set _ _ (i:=3) _ _ _ _ sc_plain.nd rfl (by first | exact Or.inl rfl | exact Or.inr rfl) (@pe_ix _ _ _ _ _ _ _ ix_LT (@pe_lst _ _ _ _ (@pa_cons _ _ _ _ _ (@pe_int _ _ _ _) (@pa_cons _ _ _ _ _ (@pe_int _ _ _ _) (@pa_cons _ _ _ _ _ (@pe_int _ _ _ _) (@pa_cons _ _ _ _ _ (@pe_int _ _ _ _) (@pa_cons _ _ _ _ _ (@pe_int _ _ _ _) (@pa_nil _) (by rfl)) (by rfl)) (by rfl)) (by rfl)) (by rfl))) (@pe_op _ _ _ _ _ _ _ _ op_mod (@pe_op _ _ _ _ _ _ _ _ op_fdivB (pv 0) (@pe_int _ _ _ _)) (@pe_int _ _ _ _)) (fun _ _ => rfl)) (by rfl) (by first | exact .inl rfl | exact .inr rfl | assumption)) (@pss_cons _ _ _ _ _ (@ps_if _ _ _ _ _ _ _ _ (@pt_cmpR _ _ _ _ _ _ _ _ (op_eqA hr.units) (pv 2) (@pe_int _ _ _ _) (nomark _)) (@pss_one _ _ _ (@ps_set _ _ (i:=3) _ _ _ _ sc_plain.nd rfl (by first | exact Or.inl rfl | exact Or.inr rfl) (@pe_int _ _ _ _) (by rfl) (by first | exact .inl rfl | exact .inr rfl | assumption))) (@pss_nil _)) (@pss_cons _ _ _ _ _ (@ps_if _ _ _ _ _ _ _ _ (@pt_cmpR _ _ _ _ _ _ _ _ (op_eqA hr.units) (pv 2) (@pe_int _ _ _ _) (nomark _)) (@pss_one _ _ _ (@ps_set _ _ (i:=3) _ _ _ _ sc_plain.nd rfl (by first | exact Or.inl rfl | exact Or.inr rfl) (@pe_callB _ _ _ _ _ _ _ _ _ (c_max rfl) rfl T.z_max bt_max (@pa_cons _ _ _ _ _ (@pe_int _ _ _ _) (@pa_cons _ _ _ _ _ (pv 3) (@pa_nil _) (by rfl)) (by rfl)) (by decide) (by decide) (by rfl) (by rfl)) (by rfl) (by first | exact .inl rfl | exact .inr rfl | assumption))) (@pss_nil _)) (@pss_cons _ _ _ _ _ (@ps_set _ _ (i:=4) _ _ _ _ sc_plain.nd rfl (by first | exact Or.inl rfl | exact Or.inr rfl) (@pe_callO _ _ _ _ _ _ _ _ _ _ o_posts hr rfl (@pa_cons _ _ _ _ _ (@pe_op _ _ _ _ _ _ _ _ op_fdivB (pv 0) (@pe_int _ _ _ _)) (@pa_cons _ _ _ _ _ (pv 1) (@pa_cons _ _ _ _ _ (pv 3) (@pa_nil _) (by rfl)) (by rfl)) (by rfl)) (by decide) (by rfl) (by rfl)) (by rfl) (by first | exact .inl rfl | exact .inr rfl | assumption)) (@pss_cons _ _ _ _ _ (@ps_set _ _ (i:=5) _ _ _ _ sc_plain.nd rfl (by first | exact Or.inl rfl | exact Or.inr rfl) (@pe_op _ _ _ _ _ _ _ _ op_fdivB (pv 0) (@pe_int _ _ _ _)) (by rfl) (by first | exact .inl rfl | exact .inr rfl | assumption)) (@pss_cons _ _ _ _ _ (@ps_for _ _ _ _ _ _ _ _ PassesOwn.never rfl (@pi_range1 _ _ _ _ _ _ rfl T.z_range (@pa_cons _ _ _ _ _ (pv 3) (@pa_nil _) (by rfl)) (by rfl)) (@pg_name _ _ (i:=6) _ sc_plain.nd rfl (by first | exact Or.inl rfl | exact Or.inr rfl) (by first | exact .inl rfl | exact .inr rfl | assumption)) (@pss_one _ _ _ (@ps_set _ _ (i:=5) _ _ _ _ sc_plain.nd rfl (by first | exact Or.inl rfl | exact Or.inr rfl) (@pe_op _ _ _ _ _ _ _ _ op_fdivB (pv 5) (@pe_int _ _ _ _)) (by rfl) (by first | exact .inl rfl | exact .inr rfl | assumption))) (by intro _; rfl)) (@pss_cons _ _ _ _ _ (@ps_set _ _ (i:=7) _ _ _ _ sc_plain.nd rfl (by first | exact Or.inl rfl | exact Or.inr rfl) (@pe_callO _ _ _ _ _ _ _ _ _ _ o_time hr rfl (@pa_cons _ _ _ _ _ (pv 5) (@pa_nil _) (by rfl)) (by decide) (by rfl) (by rfl)) (by rfl) (by first | exact .inl rfl | exact .inr rfl | assumption)) (@pss_cons _ _ _ _ _ (@ps_if _ _ _ _ _ _ _ _ (@pt_cmpR _ _ _ _ _ _ _ _ (op_eqA hr.units) (pv 2) (@pe_int _ _ _ _) (nomark _)) (@pss_one _ _ _ (@ps_ret _ _ _ _ (@pe_tup _ _ _ _ _ (@pa_cons _ _ _ _ _ (@pe_str _ _ _ _) (@pa_cons _ _ _ _ _ (@pe_ix _ _ _ _ _ _ _ ix_LT (pv 4) (@pe_int _ _ _ _) (fun _ _ => rfl)) (@pa_cons _ _ _ _ _ (@pe_ix _ _ _ _ _ _ _ ix_LT (pv 4) (@pe_int _ _ _ _) (fun _ _ => rfl)) (@pa_cons _ _ _ _ _ (pv 7) (@pa_nil _) (by rfl)) (by rfl)) (by rfl)) (by rfl))))) (@pss_nil _)) (@pss_one _ _ _ (@ps_ret _ _ _ _ (@pe_tup _ _ _ _ _ (@pa_cons _ _ _ _ _ (@pe_ix _ _ _ _ _ _ _ ix_LT (@pe_lst _ _ _ _ (@pa_cons _ _ _ _ _ (@pe_str _ _ _ _) (@pa_cons _ _ _ _ _ (@pe_str _ _ _ _) (@pa_cons _ _ _ _ _ (@pe_str _ _ _ _) (@pa_nil _) (by rfl)) (by rfl)) (by rfl))) (@pe_op _ _ _ _ _ _ _ _ op_sub (pv 2) (@pe_int _ _ _ _)) (fun _ _ => rfl)) (@pa_cons _ _ _ _ _ (pv 7) (@pa_cons _ _ _ _ _ (pv 4) (@pa_nil _) (by rfl)) (by rfl)) (by rfl)))))))))))))),?_⟩
    walk_at "go"
    refine r_lstK fun l5 hl5 => ?_
    have s1:=Same.new (o:=.lst [V.int 2,V.int 2,V.int 3,V.int 4,V.int 5]) hl5
    have hl5':=upd_same (H:=H) (a:=l5) (o:=.lst [V.int 2,V.int 2,V.int 3,V.int 4,V.int 5])
    generalize L2.upd H l5 (.lst [V.int 2,V.int 2,V.int 3,V.int 4,V.int 5]) = G0 at s1 hl5' ⊢
    walk_at "go"
    obtain ⟨m,em,hm2,hm5⟩:=at5 (c.fdiv 4 % 5) (Int.emod_nonneg _ (by decide)) (Int.emod_lt_of_pos _ (by decide))
    refine r_ixl hl5' em ?_
    have hk:c % 4 = 0 ∨ c % 4 = 1 ∨ c % 4 = 2 ∨ c % 4 = 3:=by omega
    rcases hk with ek | ek | ek | ek
    . rw [ek]
      walk_at "go"
      refine ⟨_,ln,U,2,rfl,fdiv_nn hc (by decide),s1 _ _ hln,hUl,hU,by omega,fun pp G1 ps t1 hpp hpl hps => ?_⟩
      walk_at "go"
      refine r_rng1K (by omega) (by omega) ?_
      refine r_forR (n:=2) (fun i σ G => ∃ (z:Int) (o6:Option V),σ = [some (.int c),some (.ref ln),some (.int 0),some (.int (2:Int)),some (.ref pp),some (.int z),o6,none] /\ G = G1 /\ 0 <= z) ⟨_,_,rfl,rfl,fdiv_nn hc (by decide)⟩ ?_ ?_
      . rintro i σ G hi ⟨z,o6,rfl,rfl,hz⟩
        walk_at "go"
        exact ⟨_,_,rfl,rfl,fdiv_nn hz (by decide)⟩
      rintro σ G ⟨z,o6,rfl,rfl,hz⟩
      walk_at "go"
      refine ⟨z,rfl,hz,fun vt qt G2 t2 ft tr => ?_⟩
      have hpp2:=t2 _ _ hpp
      have sG:=(s1.trans t1).trans t2
      walk_at "go"
      obtain ⟨a,b,rfl⟩:∃ a b,ps = [a,b]:=by
        match ps,hpl with
        | [a,b],_ => exact ⟨a,b,rfl⟩
      refine r_ixt hpp2 (atI_nat (show ([a,b].map V.str)[0]? = some (V.str a) from rfl)) ?_
      walk_at "go"
      refine r_tupK fun p9 hp9 => ?_
      walk_at "go"
      exact q _ _ (.run a b qt) (sG.trans (Same.new hp9)) ⟨p9,vt,rfl,upd_same,ft.tk (TK.new hp9)⟩ ⟨hps a (by simp),hps b (by simp),tr⟩
    . rw [ek]
      walk_at "go"
      refine ⟨_,ln,U,m,rfl,fdiv_nn hc (by decide),s1 _ _ hln,hUl,hU,by omega,fun pp G1 ps t1 hpp hpl hps => ?_⟩
      walk_at "go"
      refine r_rng1K (by omega) (by omega) ?_
      refine r_forR (n:=m) (fun i σ G => ∃ (z:Int) (o6:Option V),σ = [some (.int c),some (.ref ln),some (.int 1),some (.int (m:Int)),some (.ref pp),some (.int z),o6,none] /\ G = G1 /\ 0 <= z) ⟨_,_,rfl,rfl,fdiv_nn hc (by decide)⟩ ?_ ?_
      . rintro i σ G hi ⟨z,o6,rfl,rfl,hz⟩
        walk_at "go"
        exact ⟨_,_,rfl,rfl,fdiv_nn hz (by decide)⟩
      rintro σ G ⟨z,o6,rfl,rfl,hz⟩
      walk_at "go"
      refine ⟨z,rfl,hz,fun vt qt G2 t2 ft tr => ?_⟩
      have hpp2:=t2 _ _ hpp
      have sG:=(s1.trans t1).trans t2
      walk_at "go"
      refine r_lstK fun l8 hl8 => ?_
      have t8:=Same.new (o:=.lst [V.str "row",V.str "star",V.str "ring"]) hl8
      walk_at "go"
      refine r_tupK fun p9 hp9 => ?_
      have t9:=t8.trans (Same.new (o:=.tup [.str (RKind.nm .row),vt,.ref pp]) hp9)
      walk_at "go"
      exact q _ _ (.path .row qt ps) (sG.trans t9) ⟨p9,vt,pp,rfl,upd_same,ft.tk t9.tk,t9 _ _ hpp2⟩ ⟨hps,tr,by omega,by omega,fun z => nomatch z⟩
    . rw [ek]
      walk_at "go"
      refine ⟨_,ln,U,m,rfl,fdiv_nn hc (by decide),s1 _ _ hln,hUl,hU,by omega,fun pp G1 ps t1 hpp hpl hps => ?_⟩
      walk_at "go"
      refine r_rng1K (by omega) (by omega) ?_
      refine r_forR (n:=m) (fun i σ G => ∃ (z:Int) (o6:Option V),σ = [some (.int c),some (.ref ln),some (.int 2),some (.int (m:Int)),some (.ref pp),some (.int z),o6,none] /\ G = G1 /\ 0 <= z) ⟨_,_,rfl,rfl,fdiv_nn hc (by decide)⟩ ?_ ?_
      . rintro i σ G hi ⟨z,o6,rfl,rfl,hz⟩
        walk_at "go"
        exact ⟨_,_,rfl,rfl,fdiv_nn hz (by decide)⟩
      rintro σ G ⟨z,o6,rfl,rfl,hz⟩
      walk_at "go"
      refine ⟨z,rfl,hz,fun vt qt G2 t2 ft tr => ?_⟩
      have hpp2:=t2 _ _ hpp
      have sG:=(s1.trans t1).trans t2
      walk_at "go"
      refine r_lstK fun l8 hl8 => ?_
      have t8:=Same.new (o:=.lst [V.str "row",V.str "star",V.str "ring"]) hl8
      walk_at "go"
      refine r_tupK fun p9 hp9 => ?_
      have t9:=t8.trans (Same.new (o:=.tup [.str (RKind.nm .star),vt,.ref pp]) hp9)
      walk_at "go"
      exact q _ _ (.path .star qt ps) (sG.trans t9) ⟨p9,vt,pp,rfl,upd_same,ft.tk t9.tk,t9 _ _ hpp2⟩ ⟨hps,tr,by omega,by omega,fun z => nomatch z⟩
    . rw [ek]
      walk_at "go"
      obtain ⟨m',em',h3,h5⟩:∃ m':Nat,(if (m:Int) > 3 then (m:Int) else 3) = (m':Int) /\ 3 <= m' /\ m' <= 5:=by
        by_cases h:(m:Int) > 3
        . exact ⟨m,by rw [if_pos h],by omega,hm5⟩
        . exact ⟨3,by rw [if_neg h]; rfl,Nat.le_refl _,by decide⟩
      rw [em']
      walk_at "go"
      refine ⟨_,ln,U,m',rfl,fdiv_nn hc (by decide),s1 _ _ hln,hUl,hU,by omega,fun pp G1 ps t1 hpp hpl hps => ?_⟩
      walk_at "go"
      refine r_rng1K (by omega) (by omega) ?_
      refine r_forR (n:=m') (fun i σ G => ∃ (z:Int) (o6:Option V),σ = [some (.int c),some (.ref ln),some (.int 3),some (.int (m':Int)),some (.ref pp),some (.int z),o6,none] /\ G = G1 /\ 0 <= z) ⟨_,_,rfl,rfl,fdiv_nn hc (by decide)⟩ ?_ ?_
      . rintro i σ G hi ⟨z,o6,rfl,rfl,hz⟩
        walk_at "go"
        exact ⟨_,_,rfl,rfl,fdiv_nn hz (by decide)⟩
      rintro σ G ⟨z,o6,rfl,rfl,hz⟩
      walk_at "go"
      refine ⟨z,rfl,hz,fun vt qt G2 t2 ft tr => ?_⟩
      have hpp2:=t2 _ _ hpp
      have sG:=(s1.trans t1).trans t2
      walk_at "go"
      refine r_lstK fun l8 hl8 => ?_
      have t8:=Same.new (o:=.lst [V.str "row",V.str "star",V.str "ring"]) hl8
      walk_at "go"
      refine r_tupK fun p9 hp9 => ?_
      have t9:=t8.trans (Same.new (o:=.tup [.str (RKind.nm .ring),vt,.ref pp]) hp9)
      walk_at "go"
      exact q _ _ (.path .ring qt ps) (sG.trans t9) ⟨p9,vt,pp,rfl,upd_same,ft.tk t9.tk,t9 _ _ hpp2⟩ ⟨hps,tr,by omega,by omega,fun _ => by omega⟩
set_option maxHeartbeats 0 in
theorem ok_row_runs (T:Bl mg) (d:Df K mg "_law_row_runs" s_row_runs ["_law_row_here","_law_pieces"]  ) (W:XmS mg xt x1 x4) (R_NoNet:XrS K xt x1 x4 x1 1) (R_TooMany:XrS K xt x1 x4 x4 4):Okf P w K mg base (k + 1) "_law_row_runs" ["_law_row_here","_law_pieces"] (spRowRuns K):=by
  refine Okf.of d sc_row_runs (fun vs H Q E h => ?_) (fun f cdv A outer s H vs Q E hr h => ?_)
  . obtain ⟨v,cv,r,rfl,_⟩:=h
    rfl
  . obtain ⟨v,cv,r,rfl,hro,hl,q⟩:=h
    refine ⟨_,(@pss_cons _ _ _ _ _ (@ps_if _ _ _ _ _ _ _ _ (@pt_cmpR _ _ _ _ _ _ _ _ (op_eqA hr.units) (@pe_ix _ _ _ _ _ _ _ ix_LT (pv 0) (@pe_int _ _ _ _) (fun _ _ => rfl)) (@pe_str _ _ _ _) (nomark _)) (@pss_one _ _ _ (@ps_ret _ _ _ _ (@pe_lst _ _ _ _ (@pa_cons _ _ _ _ _ (@pe_slice _ _ _ _ _ _ _ _ _ _ sl_any (pv 0) (@po_some _ _ _ (@pe_int _ _ _ _)) (@po_none _)) (@pa_nil _) (by rfl))))) (@pss_nil _)) (@pss_cons _ _ _ _ _ (@ps_if _ _ _ _ _ _ _ _ (@pt_cmpR _ _ _ _ _ _ _ _ (op_eqA hr.units) (@pe_ix _ _ _ _ _ _ _ ix_LT (pv 0) (@pe_int _ _ _ _) (fun _ _ => rfl)) (@pe_str _ _ _ _) (nomark _)) (@pss_cons _ _ _ _ _ (@ps_never _ _) (@pss_one _ _ _ (@ps_never _ _))) (@pss_nil _)) (@pss_cons _ _ _ _ _ (@ps_set _ _ (i:=4) _ _ _ _ sc_row_runs.nd rfl (by first | exact Or.inl rfl | exact Or.inr rfl) (@pe_ix _ _ _ _ _ _ _ ix_LT (pv 0) (@pe_int _ _ _ _) (fun _ _ => rfl)) (by rfl) (by first | exact .inl rfl | exact .inr rfl | assumption)) (@pss_cons _ _ _ _ _ (@ps_set _ _ (i:=5) _ _ _ _ sc_row_runs.nd rfl (by first | exact Or.inl rfl | exact Or.inr rfl) (@pe_lst _ _ _ _ (@pa_nil _)) (by rfl) (by first | exact .inl rfl | exact .inr rfl | assumption)) (@pss_cons _ _ _ _ _ (@ps_for _ _ _ _ _ _ _ _ PassesOwn.never rfl (@pi_range2 _ _ _ _ _ _ _ rfl T.z_range (@pa_cons _ _ _ _ _ (@pe_int _ _ _ _) (@pa_cons _ _ _ _ _ (@pe_callB _ _ _ _ _ _ _ _ _ c_len rfl T.z_len bt_len (@pa_cons _ _ _ _ _ (pv 4) (@pa_nil _) (by rfl)) (by decide) (by decide) (by rfl) (by rfl)) (@pa_nil _) (by rfl)) (by rfl)) (by rfl) (by rfl)) (@pg_name _ _ (i:=6) _ sc_row_runs.nd rfl (by first | exact Or.inl rfl | exact Or.inr rfl) (by first | exact .inl rfl | exact .inr rfl | assumption)) (@pss_one _ _ _ (@ps_expr _ _ _ _ (@pe_bm _ _ _ _ _ _ _ _ _ _ _ _ PySem.F.plainAttrs_list PySem.F.slot_list_append PySem.F.type_list_append mt_append (pv 5) (@pa_cons _ _ _ _ _ (@pe_tup _ _ _ _ _ (@pa_cons _ _ _ _ _ (@pe_ix _ _ _ _ _ _ _ ix_LT (@pe_lst _ _ _ _ (@pa_cons _ _ _ _ _ (@pe_ix _ _ _ _ _ _ _ ix_LT (pv 4) (@pe_op _ _ _ _ _ _ _ _ op_sub (pv 6) (@pe_int _ _ _ _)) (fun _ _ => rfl)) (@pa_cons _ _ _ _ _ (@pe_ix _ _ _ _ _ _ _ ix_LT (pv 4) (@pe_int _ _ _ _) (fun _ _ => rfl)) (@pa_nil _) (by rfl)) (by rfl))) (@pe_callTy _ _ _ _ _ _ _ _ _ c_int rfl T.z_int bt_int (@pa_cons _ _ _ _ _ (@pe_cmpR _ _ _ _ _ _ _ _ (op_eqA hr.units) (@pe_ix _ _ _ _ _ _ _ ix_LT (pv 0) (@pe_int _ _ _ _) (fun _ _ => rfl)) (@pe_str _ _ _ _) (nomark _)) (@pa_nil _) (by rfl)) (by decide) (by decide) (by rfl) (by rfl)) (fun _ _ => rfl)) (@pa_cons _ _ _ _ _ (@pe_ix _ _ _ _ _ _ _ ix_LT (pv 4) (pv 6) (fun _ _ => rfl)) (@pa_cons _ _ _ _ _ (@pe_ix _ _ _ _ _ _ _ ix_LT (pv 0) (@pe_int _ _ _ _) (fun _ _ => rfl)) (@pa_nil _) (by rfl)) (by rfl)) (by rfl))) (@pa_nil _) (by rfl)) (by rfl) (by rfl) (by rfl) (by rfl) (by rfl)) (by rfl))) (by intro _; rfl)) (@pss_cons _ _ _ _ _ (@ps_if _ _ _ _ _ _ _ _ (@pt_cmpR _ _ _ _ _ _ _ _ (op_eqA hr.units) (@pe_ix _ _ _ _ _ _ _ ix_LT (pv 0) (@pe_int _ _ _ _) (fun _ _ => rfl)) (@pe_str _ _ _ _) (nomark _)) (@pss_one _ _ _ (@ps_expr _ _ _ _ (@pe_bm _ _ _ _ _ _ _ _ _ _ _ _ PySem.F.plainAttrs_list PySem.F.slot_list_append PySem.F.type_list_append mt_append (pv 5) (@pa_cons _ _ _ _ _ (@pe_tup _ _ _ _ _ (@pa_cons _ _ _ _ _ (@pe_ix _ _ _ _ _ _ _ ix_LT (pv 4) (@pe_un _ _ _ _ _ _ un_neg (@pe_int _ _ _ _)) (fun _ _ => rfl)) (@pa_cons _ _ _ _ _ (@pe_ix _ _ _ _ _ _ _ ix_LT (pv 4) (@pe_int _ _ _ _) (fun _ _ => rfl)) (@pa_cons _ _ _ _ _ (@pe_ix _ _ _ _ _ _ _ ix_LT (pv 0) (@pe_int _ _ _ _) (fun _ _ => rfl)) (@pa_nil _) (by rfl)) (by rfl)) (by rfl))) (@pa_nil _) (by rfl)) (by rfl) (by rfl) (by rfl) (by rfl) (by rfl)) (by rfl))) (@pss_nil _)) (@pss_one _ _ _ (@ps_ret _ _ _ _ (pv 5))))))))),?_⟩
    cases r with
    | run a b t =>
      obtain ⟨p,u,rfl,hp,hu⟩:=hro
      walk_at "go"
      refine s_tail hp (show 1 <= 4 by decide) fun p1 hp1 => ?_
      have t1:=Same.new (o:=.tup [.str a,.str b,u]) hp1
      walk_at "go"
      refine r_lstK fun l1 hl1 => ?_
      have t2:=t1.trans (Same.new (o:=.lst [.ref p1]) hl1)
      walk_at "go"
      exact q l1 _ (t1.free hl1) t2 ⟨_,upd_same,.cons (RunQ.mk3 (upd_old hl1 upd_same) (hu.tk t2.tk)) .nil⟩
    | path k t ps =>
      obtain ⟨p,u,z,rfl,hp,hu,hz⟩:=hro
      have hl':2 <= ps.length /\ ps.length <= 190:=hl
      have hlm:(ps.map V.str).length = ps.length:=List.length_map _
      obtain ⟨c0,ec⟩:∃ c,ps[0]? = some c:=⟨_,List.getElem?_eq_getElem (by omega)⟩
      cases k with
      | row =>
        walk_at "go"
        refine r_lstK fun lf hlf => ?_
        have sf:=Same.new (o:=.lst []) hlf
        walk_at "go"
        refine r_rng2K (by decide) (by decide) (by omega) (by omega) ?_
        rw [show (((ps.map V.str).length:Int) - 1).toNat = ps.length - 1 by omega]
        refine r_forR (n:=ps.length - 1) (fun i σ G => ∃ o6,σ = [some (.ref p),some cv,none,none,some (.ref z),some (.ref lf),o6] /\ Kp lf H G /\ TK H G /\ LQ RunQ G lf (kn ((along t ps).take i))) ⟨_,rfl,Kp.new hlf,TK.new hlf,[],upd_same,.nil⟩ ?_ ?_
        . rintro i σ G hi ⟨o6,rfl,kp,tk,vs,hvs,pv⟩
          obtain ⟨a,ea⟩:∃ a,ps[i]? = some a:=⟨_,List.getElem?_eq_getElem (by omega)⟩
          obtain ⟨b,eb⟩:∃ b,ps[i + 1]? = some b:=⟨_,List.getElem?_eq_getElem (by omega)⟩
          have hzG:=tk _ _ hz
          have hpG:=tk _ _ hp
          walk_at "go"
          rw [show (1 + (i:Int) - 1) = (i:Int) by omega]
          refine r_ixt hzG (atI_nat (show (ps.map V.str)[i]? = some (.str a) by rw [List.getElem?_map,ea]; rfl)) ?_
          walk_at "go"
          refine r_ixt hzG (atI_nat (show (ps.map V.str)[0]? = some (.str c0) by rw [List.getElem?_map,ec]; rfl)) ?_
          walk_at "go"
          refine r_lstK fun l8 hl8 => ?_
          have t1:=Same.new (o:=.lst [.str a,.str c0]) hl8
          have g8:=upd_same (H:=G) (a:=l8) (o:=.lst [.str a,.str c0])
          generalize L2.upd G l8 (.lst [.str a,.str c0]) = G1 at t1 g8 ⊢
          have hzG1:=t1 _ _ hzG
          have hpG1:=t1 _ _ hpG
          walk_at "go"
          rw [show (1 + (i:Int)) = ((i + 1:Nat):Int) by omega]
          refine r_ixt hzG1 (atI_nat (show (ps.map V.str)[i + 1]? = some (.str b) by rw [List.getElem?_map,eb]; rfl)) ?_
          walk_at "go"
          refine r_tupK fun p9 hp9 => ?_
          have t2:=t1.trans (Same.new (o:=.tup [.str a,.str b,u]) hp9)
          have h9:=upd_same (H:=G1) (a:=p9) (o:=.tup [.str a,.str b,u])
          generalize L2.upd G1 p9 (.tup [.str a,.str b,u]) = G2 at t2 h9 ⊢
          have el:vs.length = ((along t ps).take i).length:=(Paired.length pv).trans (by simp [kn])
          have el2:=List.length_take_le i (along t ps)
          walk_at "go"
          refine r_app (t2 _ _ hvs) (by omega) ?_
          have tk2:=TK.lst (o:=.lst (vs ++ [.ref p9])) (t2 _ _ hvs)
          walk_at "go"
          refine ⟨_,rfl,(kp.trans t2.kp).trans Kp.upd,(tk.trans t2.tk).trans tk2,_,upd_same,?_⟩
          rw [kn_take _ _ (show (along t ps)[i]? = some (a,b,t) from along_at t ps i a b ea eb)]
          exact Pd.snoc (Pd.imp pv fun v b f => (RunQ.tk f t2.tk).tk tk2) (RunQ.mk3 (tk2 _ _ h9) (((hu.tk tk).tk t2.tk).tk tk2))
        rintro σ G ⟨o6,rfl,kp,tk,vs,hvs,pv⟩
        have hzG:=tk _ _ hz
        have hpG:=tk _ _ hp
        rw [List.take_of_length_le (by rw [along_len]; exact Nat.le_refl _)] at pv
        walk_at "go"
        exact q lf G hlf (fun b o h => kp _ _ (ne_of_none h hlf) h) ⟨vs,hvs,pv⟩
      | star =>
        walk_at "go"
        refine r_lstK fun lf hlf => ?_
        have sf:=Same.new (o:=.lst []) hlf
        walk_at "go"
        refine r_rng2K (by decide) (by decide) (by omega) (by omega) ?_
        rw [show (((ps.map V.str).length:Int) - 1).toNat = ps.length - 1 by omega]
        refine r_forR (n:=ps.length - 1) (fun i σ G => ∃ o6,σ = [some (.ref p),some cv,none,none,some (.ref z),some (.ref lf),o6] /\ Kp lf H G /\ TK H G /\ LQ RunQ G lf (kn ((ps.tail.map fun x => (ps.headD "",x,t)).take i))) ⟨_,rfl,Kp.new hlf,TK.new hlf,[],upd_same,.nil⟩ ?_ ?_
        . rintro i σ G hi ⟨o6,rfl,kp,tk,vs,hvs,pv⟩
          obtain ⟨a,ea⟩:∃ a,ps[i]? = some a:=⟨_,List.getElem?_eq_getElem (by omega)⟩
          obtain ⟨b,eb⟩:∃ b,ps[i + 1]? = some b:=⟨_,List.getElem?_eq_getElem (by omega)⟩
          have hzG:=tk _ _ hz
          have hpG:=tk _ _ hp
          walk_at "go"
          rw [show (1 + (i:Int) - 1) = (i:Int) by omega]
          refine r_ixt hzG (atI_nat (show (ps.map V.str)[i]? = some (.str a) by rw [List.getElem?_map,ea]; rfl)) ?_
          walk_at "go"
          refine r_ixt hzG (atI_nat (show (ps.map V.str)[0]? = some (.str c0) by rw [List.getElem?_map,ec]; rfl)) ?_
          walk_at "go"
          refine r_lstK fun l8 hl8 => ?_
          have t1:=Same.new (o:=.lst [.str a,.str c0]) hl8
          have g8:=upd_same (H:=G) (a:=l8) (o:=.lst [.str a,.str c0])
          generalize L2.upd G l8 (.lst [.str a,.str c0]) = G1 at t1 g8 ⊢
          have hzG1:=t1 _ _ hzG
          have hpG1:=t1 _ _ hpG
          walk_at "go"
          rw [show (1 + (i:Int)) = ((i + 1:Nat):Int) by omega]
          refine r_ixt hzG1 (atI_nat (show (ps.map V.str)[i + 1]? = some (.str b) by rw [List.getElem?_map,eb]; rfl)) ?_
          walk_at "go"
          refine r_tupK fun p9 hp9 => ?_
          have t2:=t1.trans (Same.new (o:=.tup [.str c0,.str b,u]) hp9)
          have h9:=upd_same (H:=G1) (a:=p9) (o:=.tup [.str c0,.str b,u])
          generalize L2.upd G1 p9 (.tup [.str c0,.str b,u]) = G2 at t2 h9 ⊢
          have el:vs.length = ((ps.tail.map fun x => (ps.headD "",x,t)).take i).length:=(Paired.length pv).trans (by simp [kn])
          have el2:=List.length_take_le i (ps.tail.map fun x => (ps.headD "",x,t))
          walk_at "go"
          refine r_app (t2 _ _ hvs) (by omega) ?_
          have tk2:=TK.lst (o:=.lst (vs ++ [.ref p9])) (t2 _ _ hvs)
          walk_at "go"
          refine ⟨_,rfl,(kp.trans t2.kp).trans Kp.upd,(tk.trans t2.tk).trans tk2,_,upd_same,?_⟩
          rw [kn_take _ _ (show (ps.tail.map fun x => (ps.headD "",x,t))[i]? = some (c0,b,t) from star_at ec eb)]
          exact Pd.snoc (Pd.imp pv fun v b f => (RunQ.tk f t2.tk).tk tk2) (RunQ.mk3 (tk2 _ _ h9) (((hu.tk tk).tk t2.tk).tk tk2))
        rintro σ G ⟨o6,rfl,kp,tk,vs,hvs,pv⟩
        have hzG:=tk _ _ hz
        have hpG:=tk _ _ hp
        rw [List.take_of_length_le (by rw [List.length_map,List.length_tail]; exact Nat.le_refl _)] at pv
        walk_at "go"
        exact q lf G hlf (fun b o h => kp _ _ (ne_of_none h hlf) h) ⟨vs,hvs,pv⟩
      | ring =>
        walk_at "go"
        refine r_lstK fun lf hlf => ?_
        have sf:=Same.new (o:=.lst []) hlf
        walk_at "go"
        refine r_rng2K (by decide) (by decide) (by omega) (by omega) ?_
        rw [show (((ps.map V.str).length:Int) - 1).toNat = ps.length - 1 by omega]
        refine r_forR (n:=ps.length - 1) (fun i σ G => ∃ o6,σ = [some (.ref p),some cv,none,none,some (.ref z),some (.ref lf),o6] /\ Kp lf H G /\ TK H G /\ LQ RunQ G lf (kn ((along t ps).take i))) ⟨_,rfl,Kp.new hlf,TK.new hlf,[],upd_same,.nil⟩ ?_ ?_
        . rintro i σ G hi ⟨o6,rfl,kp,tk,vs,hvs,pv⟩
          obtain ⟨a,ea⟩:∃ a,ps[i]? = some a:=⟨_,List.getElem?_eq_getElem (by omega)⟩
          obtain ⟨b,eb⟩:∃ b,ps[i + 1]? = some b:=⟨_,List.getElem?_eq_getElem (by omega)⟩
          have hzG:=tk _ _ hz
          have hpG:=tk _ _ hp
          walk_at "go"
          rw [show (1 + (i:Int) - 1) = (i:Int) by omega]
          refine r_ixt hzG (atI_nat (show (ps.map V.str)[i]? = some (.str a) by rw [List.getElem?_map,ea]; rfl)) ?_
          walk_at "go"
          refine r_ixt hzG (atI_nat (show (ps.map V.str)[0]? = some (.str c0) by rw [List.getElem?_map,ec]; rfl)) ?_
          walk_at "go"
          refine r_lstK fun l8 hl8 => ?_
          have t1:=Same.new (o:=.lst [.str a,.str c0]) hl8
          have g8:=upd_same (H:=G) (a:=l8) (o:=.lst [.str a,.str c0])
          generalize L2.upd G l8 (.lst [.str a,.str c0]) = G1 at t1 g8 ⊢
          have hzG1:=t1 _ _ hzG
          have hpG1:=t1 _ _ hpG
          walk_at "go"
          rw [show (1 + (i:Int)) = ((i + 1:Nat):Int) by omega]
          refine r_ixt hzG1 (atI_nat (show (ps.map V.str)[i + 1]? = some (.str b) by rw [List.getElem?_map,eb]; rfl)) ?_
          walk_at "go"
          refine r_tupK fun p9 hp9 => ?_
          have t2:=t1.trans (Same.new (o:=.tup [.str a,.str b,u]) hp9)
          have h9:=upd_same (H:=G1) (a:=p9) (o:=.tup [.str a,.str b,u])
          generalize L2.upd G1 p9 (.tup [.str a,.str b,u]) = G2 at t2 h9 ⊢
          have el:vs.length = ((along t ps).take i).length:=(Paired.length pv).trans (by simp [kn])
          have el2:=List.length_take_le i (along t ps)
          walk_at "go"
          refine r_app (t2 _ _ hvs) (by omega) ?_
          have tk2:=TK.lst (o:=.lst (vs ++ [.ref p9])) (t2 _ _ hvs)
          walk_at "go"
          refine ⟨_,rfl,(kp.trans t2.kp).trans Kp.upd,(tk.trans t2.tk).trans tk2,_,upd_same,?_⟩
          rw [kn_take _ _ (show (along t ps)[i]? = some (a,b,t) from along_at t ps i a b ea eb)]
          exact Pd.snoc (Pd.imp pv fun v b f => (RunQ.tk f t2.tk).tk tk2) (RunQ.mk3 (tk2 _ _ h9) (((hu.tk tk).tk t2.tk).tk tk2))
        rintro σ G ⟨o6,rfl,kp,tk,vs,hvs,pv⟩
        have hzG:=tk _ _ hz
        have hpG:=tk _ _ hp
        rw [List.take_of_length_le (by rw [along_len]; exact Nat.le_refl _)] at pv
        walk_at "go"
        obtain ⟨y,ey⟩:∃ y,ps.getLast? = some y:=by
          cases hgl:ps.getLast? with
          | none => rw [List.getLast?_eq_none_iff.mp hgl] at hl'; exact absurd hl'.1 (by decide)
          | some y => exact ⟨y,rfl⟩
        refine r_ixt (v:=.str y) hzG (at_last ey) ?_
        walk_at "go"
        refine r_ixt hzG (atI_nat (show (ps.map V.str)[0]? = some (.str c0) by rw [List.getElem?_map,ec]; rfl)) ?_
        walk_at "go"
        refine r_tupK fun p9 hp9 => ?_
        have t2:=Same.new (o:=.tup [.str y,.str c0,u]) hp9
        have h9:=upd_same (H:=G) (a:=p9) (o:=.tup [.str y,.str c0,u])
        generalize L2.upd G p9 (.tup [.str y,.str c0,u]) = G2 at t2 h9 ⊢
        have el:vs.length = (along t ps).length:=(Paired.length pv).trans (by simp [kn])
        rw [along_len] at el
        walk_at "go"
        refine r_app (t2 _ _ hvs) (by omega) ?_
        have tk2:=TK.lst (o:=.lst (vs ++ [.ref p9])) (t2 _ _ hvs)
        walk_at "go"
        refine q lf _ hlf (fun b o h => Kp.upd _ _ (ne_of_none h hlf) (t2 _ _ (kp _ _ (ne_of_none h hlf) h))) ⟨_,upd_same,?_⟩
        rw [show (PRow.path .ring t ps).runs = along t ps ++ [(y,c0,t)] from ring_runs ey ec,show kn (along t ps ++ [(y,c0,t)]) = kn (along t ps) ++ [(Sum.inr y,Sum.inr c0,t)] by simp [kn]]
        exact Pd.snoc (Pd.imp pv fun v b f => (RunQ.tk f t2.tk).tk tk2) (RunQ.mk3 (tk2 _ _ h9) (((hu.tk tk).tk t2.tk).tk tk2))
set_option maxHeartbeats 0 in
theorem ok_runs (T:Bl mg) (d:Df K mg "_law_runs" s_runs ["_law_rows","_law_pieces"]  ) (W:XmS mg xt x1 x4) (R_NoNet:XrS K xt x1 x4 x1 1) (R_TooMany:XrS K xt x1 x4 x4 4) (o_row_runs:Okf P w K mg base k "_law_row_runs" ["_law_row_here","_law_pieces"] (spRowRuns K)):Okf P w K mg base (k + 1) "_law_runs" ["_law_rows","_law_pieces"] (spRuns73 K):=by
  refine Okf.of d sc_runs (fun vs H Q E h => ?_) (fun f cdv A outer s H vs Q E hr h => ?_)
  . obtain ⟨l,rs,cv,rfl,_⟩:=h
    rfl
  . obtain ⟨l,rs,cv,rfl,hl,hn,q⟩:=h
    refine ⟨_,(@pss_cons _ _ _ _ _ (@ps_set _ _ (i:=2) _ _ _ _ sc_runs.nd rfl (by first | exact Or.inl rfl | exact Or.inr rfl) (@pe_lst _ _ _ _ (@pa_nil _)) (by rfl) (by first | exact .inl rfl | exact .inr rfl | assumption)) (@pss_cons _ _ _ _ _ (@ps_for _ _ _ _ _ _ _ _ PassesOwn.never rfl (@pi_list _ _ _ _ (pv 0)) (@pg_name _ _ (i:=3) _ sc_runs.nd rfl (by first | exact Or.inl rfl | exact Or.inr rfl) (by first | exact .inl rfl | exact .inr rfl | assumption)) (@pss_one _ _ _ (@ps_if _ _ _ _ _ _ _ _ (@pt_cmpR _ _ _ _ _ _ _ _ (op_eqA hr.units) (@pe_ix _ _ _ _ _ _ _ ix_LT (pv 3) (@pe_int _ _ _ _) (fun _ _ => rfl)) (@pe_str _ _ _ _) (nomark _)) (@pss_one _ _ _ (@ps_never _ _)) (@pss_one _ _ _ (@ps_set _ _ (i:=2) _ _ _ _ sc_runs.nd rfl (by first | exact Or.inl rfl | exact Or.inr rfl) (@pe_slice _ _ _ _ _ _ _ _ _ _ sl_any (@pe_op _ _ _ _ _ _ _ _ op_addA (pv 2) (@pe_callO _ _ _ _ _ _ _ _ _ _ o_row_runs hr rfl (@pa_cons _ _ _ _ _ (pv 3) (@pa_cons _ _ _ _ _ (pv 1) (@pa_nil _) (by rfl)) (by rfl)) (by decide) (by rfl) (by rfl))) (@po_none _) (@po_some _ _ _ (@pe_int _ _ _ _))) (by rfl) (by first | exact .inl rfl | exact .inr rfl | assumption))))) (by intro _; rfl)) (@pss_one _ _ _ (@ps_ret _ _ _ _ (pv 2))))),?_⟩
    obtain ⟨xs,hxs,pr⟩:=hl
    walk_at "go"
    refine r_lstK fun l0 hl0 => ?_
    walk_at "go"
    have s0:=Same.new (o:=.lst []) hl0
    refine r_listK (SqL.of (s0 _ _ hxs)) ?_
    refine r_forL (xs:=xs) (fun i σ G => ∃ o3 lf,σ = [some (.ref l),some cv,some (.ref lf),o3] /\ Same H G /\ H lf = none /\ LQ RunQ G lf (kn ((allR (rs.take i)).take 121))) ⟨_,_,rfl,s0,hl0,[],upd_same,.nil⟩ ?_ ?_ ?_
    . rintro i σ G _ ⟨o3,lf,rfl,sG,_⟩
      exact SqL.of (sG _ _ hxs)
    . rintro i x σ G hx ⟨o3,lf,rfl,sG,hlf,vs,hvs,pv⟩
      obtain ⟨r,hr0,rq⟩:=Paired.at pr hx
      replace rq:=rq.tk sG.tk
      obtain ⟨p,ys,rfl,hp⟩:=rq.head
      have npc:=r.no_piece
      walk_at "go"
      refine r_ixt hp (atI_nat (show (V.str r.kind :: ys)[0]? = some (V.str r.kind) from rfl)) ?_
      walk_at "go"
      rw [if_neg (show ¬ (r.kind == "piece") = true by simpa using npc)]
      walk_at "go"
      have hrn:=(hn r (List.mem_of_getElem? hr0)).2
      refine ⟨_,_,r,rfl,rq,hrn,fun l2 G1 hl2 t1 lq => ?_⟩
      obtain ⟨v2,hv2,pv2⟩:=lq
      have e1:vs.length = ((allR (rs.take i)).take 121).length:=(Paired.length pv).trans (by simp [kn])
      have e2:v2.length = r.runs.length:=(Paired.length pv2).trans (by simp [kn])
      have e3:=List.length_take_le 121 (allR (rs.take i))
      have e4:=runs_len hrn
      walk_at "go"
      refine a_lst (t1 _ _ hvs) hv2 (by omega) fun l3 hl3 => ?_
      have t12:=Same.new (o:=.lst (vs ++ v2)) hl3
      have g3:=upd_same (H:=G1) (a:=l3) (o:=.lst (vs ++ v2))
      generalize L2.upd G1 l3 (.lst (vs ++ v2)) = G2 at t12 g3 ⊢
      have t2:=t1.trans t12
      walk_at "go"
      refine s_lst g3 fun l4 hl4 => ?_
      rw [show (121:Int) = ((121:Nat):Int) from rfl,cut_n]
      have t13:=t12.trans (Same.new (o:=.lst ((vs ++ v2).take 121)) hl4)
      have t3:=t1.trans t13
      walk_at "go"
      refine ⟨_,l4,rfl,sG.trans t3,(sG.trans t2).free hl4,_,upd_same,?_⟩
      rw [all_take hr0,take_app121 (allR (rs.take i)) r.runs]
      generalize (allR (rs.take i)).take 121 = n1 at pv
      rw [show kn ((n1 ++ r.runs).take 121) = (kn n1 ++ kn r.runs).take 121 by simp [kn]]
      exact Pd.tak (Pd.app (Pd.imp pv fun v b f => RunQ.tk f t3.tk) (Pd.imp pv2 fun v b f => RunQ.tk f t13.tk)) 121
    rintro σ G ⟨o3,lf,rfl,sG,hlf,lq⟩
    rw [Paired.length pr,List.take_length] at lq
    walk_at "go"
    exact q lf G hlf sG lq
set_option maxHeartbeats 0 in
theorem ok_due (T:Bl mg) (d:Df K mg "_law_due" s_due ["_law_rows"]  ) (W:XmS mg xt x1 x4) (R_NoNet:XrS K xt x1 x4 x1 1) (R_TooMany:XrS K xt x1 x4 x4 4) (o_runs:Okf P w K mg base k "_law_runs" ["_law_rows","_law_pieces"] (spRuns73 K)):Okf P w K mg base (k + 1) "_law_due" ["_law_rows"] (spDue73 K):=by
  refine Okf.of d sc_due (fun vs H Q E h => ?_) (fun f cdv A outer s H vs Q E hr h => ?_)
  . obtain ⟨l,rs,rfl,_⟩:=h
    rfl
  . obtain ⟨l,rs,rfl,hl,hn,q⟩:=h
    refine ⟨_,(@pss_cons _ _ _ _ _ (@ps_set _ _ (i:=1) _ _ _ _ sc_due.nd rfl (by first | exact Or.inl rfl | exact Or.inr rfl) (@pe_callO _ _ _ _ _ _ _ _ _ _ o_runs hr rfl (@pa_cons _ _ _ _ _ (pv 0) (@pa_cons _ _ _ _ _ (@pe_dnewK _ _) (@pa_nil _) (by rfl)) (by rfl)) (by decide) (by rfl) (by rfl)) (by rfl) (by first | exact .inl rfl | exact .inr rfl | assumption)) (@pss_cons _ _ _ _ _ (@ps_if _ _ _ _ _ _ _ _ (@pt_cmpR _ _ _ _ _ _ _ _ op_gt (@pe_callB _ _ _ _ _ _ _ _ _ c_len rfl T.z_len bt_len (@pa_cons _ _ _ _ _ (pv 1) (@pa_nil _) (by rfl)) (by decide) (by decide) (by rfl) (by rfl)) (@pe_int _ _ _ _) (nomark _)) (@pss_one _ _ _ (@ps_ret _ _ _ _ (@pe_str _ _ _ _))) (@pss_nil _)) (@pss_cons _ _ _ _ _ (@ps_setC _ _ _ _ _ _ _ _ _ _ _ _ _ _ (i:=2) _ _ _ sc_due.nd rfl (by first | exact Or.inl rfl | exact Or.inr rfl) (@comp_ck _ _ (sc:=defScope s_due) (N:=["_law_rows","_law_found","_law_bad"]) (tn:=["_law_run"]) (names:=[]) (is:=[]) rfl rfl (by decide +kernel) (by decide +kernel) rfl (by decide +kernel) rfl (by decide +kernel) (by decide +kernel) (by decide +kernel)) rfl (@pi_list _ _ _ _ (pv 1)) (fun _ _ _ _ => (@pg_name _ _ (i:=0) _ (show (["_law_run"]:List Str).Nodup by decide +kernel) rfl (Or.inl rfl) (Or.inr rfl))) (fun _ _ _ _ => (pv 0)) (fun _ _ _ _ => (@pts_one _ _ _ (@PW.pt _ _ _ (@pw_or _ _ _ _ _ _ _ (@pt_cmpR _ _ _ _ _ _ _ _ (op_eqA hr.units) (@pe_ix _ _ _ _ _ _ _ ix_LTc (pv 0) (@pe_int _ _ _ _) (fun _ _ => rfl)) (@pe_ix _ _ _ _ _ _ _ ix_LTc (pv 0) (@pe_int _ _ _ _) (fun _ _ => rfl)) (nomark _)) (@pw_or1 _ _ _ _ (@pt_cmpR _ _ _ _ _ _ _ _ op_gt (@pe_callB _ _ _ _ _ _ _ _ _ (c_max rfl) rfl T.z_max bt_max (@pa_cons _ _ _ _ _ (@pe_bmc _ _ _ _ _ _ _ _ _ _ _ _ _ _ _ _ _ _ _ PySem.F.plainAttrs_str PySem.F.slot_str_count PySem.F.type_str_count mt_cntP (@pe_ix _ _ _ _ _ _ _ ix_LTc (pv 0) (@pe_int _ _ _ _) (fun _ _ => rfl)) (@pa_cons _ _ _ _ _ (@pe_str _ _ _ _) (@pa_nil _) (by rfl)) (by rfl) (by rfl) (by rfl) (by rfl) (by rfl)) (@pa_cons _ _ _ _ _ (@pe_bmc _ _ _ _ _ _ _ _ _ _ _ _ _ _ _ _ _ _ _ PySem.F.plainAttrs_str PySem.F.slot_str_count PySem.F.type_str_count mt_cntP (@pe_ix _ _ _ _ _ _ _ ix_LTc (pv 0) (@pe_int _ _ _ _) (fun _ _ => rfl)) (@pa_cons _ _ _ _ _ (@pe_str _ _ _ _) (@pa_nil _) (by rfl)) (by rfl) (by rfl) (by rfl) (by rfl) (by rfl)) (@pa_nil _) (by rfl)) (by rfl)) (by decide) (by decide) (by rfl) (by rfl)) (@pe_int _ _ _ _) (nomark _))))))) (by intro _; rfl) (by rfl) (by first | exact .inl rfl | exact .inr rfl | assumption)) (@pss_cons _ _ _ _ _ (@ps_if _ _ _ _ _ _ _ _ (@PW.pt _ _ _ (@pw_or _ _ _ _ _ _ _ (@pt_cmpR _ _ _ _ _ _ _ _ (op_neA hr.units) (pv 2) (@pe_lst _ _ _ _ (@pa_nil _)) (nomark _)) (@pw_or1 _ _ _ _ (@pt_cmpR _ _ _ _ _ _ _ _ (op_eqA hr.units) (pv 1) (@pe_lst _ _ _ _ (@pa_nil _)) (nomark _))))) (@pss_one _ _ _ (@ps_ret _ _ _ _ (@pe_str _ _ _ _))) (@pss_nil _)) (@pss_one _ _ _ (@ps_ret _ _ _ _ (pv 1))))))),?_⟩
    have q1:=fun (hc:120 < cntR rs) H' s => q (.str "many") H' s (.inl ⟨hc,rfl⟩)
    have q2:=fun (hc:cntR rs <= 120) (hb:BadR rs) H' s => q (.str "none") H' s (.inr (.inl ⟨hc,hb,rfl⟩))
    have q3:=fun (hc:cntR rs <= 120) (hb:¬ BadR rs) l' H' (h0:H l' = none) s lq => q (.ref l') H' s (.inr (.inr ⟨hc,hb,l',rfl,h0,lq⟩))
    clear q
    walk_at "go"
    refine r_dnew fun dc hdc => ?_
    have s0:=Same.new (o:=.dK []) hdc
    walk_at "go"
    refine ⟨l,rs,_,rfl,hl.sm s0,hn,fun lf G hlf sm lq => ?_⟩
    have s1:=s0.trans sm
    have hlf0:=s0.free hlf
    obtain ⟨vs,hvs,pv⟩:=lq
    have e1:vs.length = ((allR rs).take 121).length:=(Paired.length pv).trans (by simp [kn])
    rw [List.length_take] at e1
    walk_at "go"
    refine i_d (fun hc => ?_) (fun hc => ?_)
    . walk_at "go"
      exact q1 (by rw [cnt_all]; omega) _ s1
    have hc':(allR rs).length <= 120:=by omega
    rw [List.take_of_length_le (by omega)] at pv
    replace e1:vs.length = (allR rs).length:=by omega
    walk_at "go"
    refine r_listK (SqL.of hvs) ?_
    have hok:=all_ok hn
    refine r_compLT (xs:=vs) (by omega) (fun acc i ys G' => Kp acc G G' /\ TK G G' /\ ∃ m,Paired (RunQ G') ys (kn m) /\ (m = [] ↔ ∀ r ∈ (allR rs).take i,r.1 ≠ r.2.1)) ?_ ?_ ?_ ?_
    . intro acc h0
      exact ⟨Kp.new h0,TK.new h0,[],.nil,fun _ r h => (nomatch h),fun _ => rfl⟩
    . rintro acc i ys G' h0 hi ⟨kp,_⟩
      exact SqL.of (kp _ _ (ne_of_none hvs h0) hvs)
    . rintro acc i ys G' x h0 hx hyl hG' ⟨kp,tk,m,pm,hys⟩
      obtain ⟨rr,hrr,p,ut,rfl,hp,ft⟩:=Paired.at pv hx
      obtain ⟨r,hr0,rfl⟩:=kn_at hrr
      replace hp:G p = some (.tup [.str r.1,.str r.2.1,ut]):=hp
      have hpG:=tk _ _ hp
      have hiv:=(List.getElem?_eq_some_iff.mp hx).1
      obtain ⟨k1,k2,_⟩:=hok r (List.mem_of_getElem? hr0)
      have hta:∀ x ∈ (allR rs).take (i + 1),x ∈ (allR rs).take i ∨ x = r:=fun x hx => by
        rw [List.take_add_one,hr0] at hx
        simpa using hx
      have hr1:r ∈ (allR rs).take (i + 1):=by
        rw [List.take_add_one,hr0]
        simp
      have hsub:∀ x ∈ (allR rs).take i,x ∈ (allR rs).take (i + 1):=fun x hx => by
        rw [List.take_add_one]
        exact List.mem_append.mpr (.inl hx)
      walk_at "go"
      by_cases e:r.1 = r.2.1
      . rw [if_pos (show (r.1 == r.2.1) = true by rw [e]; simp)]
        walk_at "go"
        have tk2:=TK.lst (o:=.lst (ys ++ [.ref p])) hG'
        refine f_next hiv hyl hG' ⟨kp.trans Kp.upd,tk.trans tk2,m ++ [r],?_,?_,fun h => absurd e (h r hr1)⟩
        . rw [show kn (m ++ [r]) = kn m ++ [(Sum.inr r.1,Sum.inr r.2.1,r.2.2)] by simp [kn]]
          exact Pd.snoc (Pd.imp pm fun v b f => RunQ.tk f tk2) (RunQ.mk3 (tk2 _ _ hpG) ((ft.tk tk).tk tk2))
        . intro h
          exact absurd (congrArg List.length h) (by simp)
      . rw [if_neg (show ¬ (r.1 == r.2.1) = true by simpa using e)]
        walk_at "go"
        refine ⟨r.1,rfl,by rw [show (".":Str) = ⟨#[46]⟩ by decide +kernel],fun n1 en1 => ?_⟩
        walk_at "go"
        refine ⟨r.2.1,rfl,by rw [show (".":Str) = ⟨#[46]⟩ by decide +kernel],fun n2 en2 => ?_⟩
        have f1:=k1.few en1
        have f2:=k2.few en2
        walk_at "go"
        refine f_skip hiv hyl hG' ⟨kp,tk,m,pm,fun h x hx => (hta x hx).elim (hys.mp h x) fun z => by rw [z]; exact e,fun h => hys.mpr fun x hx => h x (hsub x hx)⟩
    rintro acc ys G' h0 hG' hyl ⟨kp,tk,m,pm,hys⟩
    rw [e1,List.take_length] at hys
    have sG':Same G G':=fun b o h => kp _ _ (ne_of_none h h0) h
    have hvs':=sG' _ _ hvs
    have s2:=s1.trans sG'
    walk_at "go"
    refine r_lstK fun l9 hl9 => ?_
    have t9:=Same.new (o:=.lst []) hl9
    refine n_runE (n:=m) ⟨ys,t9 _ _ hG',Pd.imp pm fun v b f => RunQ.tk f t9.tk⟩ upd_same ?_
    have hcc:cntR rs <= 120:=by rw [cnt_all]; exact hc'
    by_cases hm:m = []
    . rw [decide_eq_true hm]
      walk_at "go"
      refine r_lstK fun l8 hl8 => ?_
      have t8:=t9.trans (Same.new (o:=.lst []) hl8)
      refine e_runE (n:=allR rs) ⟨vs,t8 _ _ hvs',Pd.imp pv fun v b f => RunQ.tk f (sG'.trans t8).tk⟩ upd_same ?_
      by_cases ha:allR rs = []
      . rw [decide_eq_true ha]
        walk_at "go"
        exact q2 hcc (.inl ha) _ (s2.trans t8)
      . rw [decide_eq_false ha]
        walk_at "go"
        refine q3 hcc ?_ lf _ hlf0 (s2.trans t8) ⟨vs,t8 _ _ hvs',Pd.imp pv fun v b f => RunQ.tk f (sG'.trans t8).tk⟩
        rintro (h | ⟨r,hr,e⟩)
        . exact ha h
        . exact hys.mp hm r hr e
    . rw [decide_eq_false hm]
      walk_at "go"
      refine q2 hcc (.inr ?_) _ (s2.trans t9)
      exact Classical.byContradiction fun h => hm (hys.mpr fun r hr e => h ⟨r,hr,e⟩)
set_option maxHeartbeats 0 in
theorem ok_told (T:Bl mg) (d:Df K mg "_law_told" s_told ["_law_rows"]  ) (W:XmS mg xt x1 x4) (R_NoNet:XrS K xt x1 x4 x1 1) (R_TooMany:XrS K xt x1 x4 x4 4) (o_opened:OkfX P w K mg base k "opened" ["rows"] [] (spOpened x1 x4)):Okf P w K mg base (k + 1) "_law_told" ["_law_rows"] (spTold73 K):=by
  refine Okf.of d sc_told (fun vs H Q E h => ?_) (fun f cdv A outer s H vs Q E hr h => ?_)
  . obtain ⟨l,rs,rfl,_⟩:=h
    rfl
  . obtain ⟨l,rs,rfl,hl,hn,q⟩:=h
    refine ⟨_,(@pss_cons _ _ _ _ _ (@ps_set _ _ (i:=1) _ _ _ _ sc_told.nd rfl (by first | exact Or.inl rfl | exact Or.inr rfl) (@pe_non _ _ _) (by rfl) (by first | exact .inl rfl | exact .inr rfl | assumption)) (@pss_cons _ _ _ _ _ (@ps_set _ _ (i:=2) _ _ _ _ sc_told.nd rfl (by first | exact Or.inl rfl | exact Or.inr rfl) (@pe_non _ _ _) (by rfl) (by first | exact .inl rfl | exact .inr rfl | assumption)) (@pss_cons _ _ _ _ _ (@ps_try _ _ _ _ (i:=3) _ _ _ _ _ _ _ _ rfl rfl rfl rfl W.t sc_told.nd rfl rfl (@px_set _ _ _ _ (i:=1) _ _ sc_told.nd rfl (by first | exact Or.inl rfl | exact Or.inr rfl) (@pex_call _ _ _ _ _ _ _ _ _ _ _ o_opened rfl (fun _ _ z => z) hr rfl (@pa_cons _ _ _ _ _ (pv 0) (@pa_nil _) (by rfl)) (by decide) (by rfl) (by rfl)) (by rfl) (by first | exact .inl rfl | exact .inr rfl)) (fun y => (@pss_one _ _ _ (@ps_set _ _ (i:=2) _ _ _ _ sc_told.nd rfl (by first | exact Or.inl rfl | exact Or.inr rfl) (pv 3) (by rfl) (by first | exact .inl rfl | exact .inr rfl | assumption)))) (by decide)) (@pss_cons _ _ _ _ _ (@ps_if _ _ _ _ _ _ _ _ (@pt_cmpR _ _ _ _ _ _ _ _ op_isN2 (pv 2) (@pe_non _ _ _) (nomark _)) (@pss_one _ _ _ (@ps_ret _ _ _ _ (pv 1))) (@pss_nil _)) (@pss_cons _ _ _ _ _ (@ps_if _ _ _ _ _ _ _ _ (@PW.pt _ _ _ (@pw_or _ _ _ _ _ _ _ (@pt_not _ _ _ _ (@pt_val _ _ _ (@pe_callB _ _ _ _ _ _ _ _ _ call_isX rfl T.z_isinstance bt_isinstance (@pa_cons _ _ _ _ _ (pv 2) (@pa_cons _ _ _ _ _ (@pe_bltn _ _ (v:=.ty "ValueError") _ _ rfl W.zV bt_ValueError rfl (by decide) (by decide)) (@pa_nil _) (by rfl)) (by rfl)) (by decide) (by decide) (by rfl) (by rfl)) (by intro _; rfl))) (@pw_or1 _ _ _ _ (@pt_cmpR _ _ _ _ _ _ _ _ (op_eqA hr.units) (@pe_callB _ _ _ _ _ _ _ _ _ call_isX rfl T.z_isinstance bt_isinstance (@pa_cons _ _ _ _ _ (pv 2) (@pa_cons _ _ _ _ _ (@pe_glob _ _ (v:=.ref x4) _ _ rfl W.m_TooMany rfl (by decide)) (@pa_nil _) (by rfl)) (by rfl)) (by decide) (by decide) (by rfl) (by rfl)) (@pe_callB _ _ _ _ _ _ _ _ _ call_isX rfl T.z_isinstance bt_isinstance (@pa_cons _ _ _ _ _ (pv 2) (@pa_cons _ _ _ _ _ (@pe_glob _ _ (v:=.ref x1) _ _ rfl W.m_NoNet rfl (by decide)) (@pa_nil _) (by rfl)) (by rfl)) (by decide) (by decide) (by rfl) (by rfl)) (nomark _))))) (@pss_one _ _ _ (@ps_ret _ _ _ _ (@pe_str _ _ _ _))) (@pss_nil _)) (@pss_one _ _ _ (@ps_ret _ _ _ _ (@pe_ix _ _ _ _ _ _ _ ix_LT (@pe_lst _ _ _ _ (@pa_cons _ _ _ _ _ (@pe_str _ _ _ _) (@pa_cons _ _ _ _ _ (@pe_str _ _ _ _) (@pa_nil _) (by rfl)) (by rfl))) (@pe_callTy _ _ _ _ _ _ _ _ _ c_int rfl T.z_int bt_int (@pa_cons _ _ _ _ _ (@pe_callB _ _ _ _ _ _ _ _ _ call_isX rfl T.z_isinstance bt_isinstance (@pa_cons _ _ _ _ _ (pv 2) (@pa_cons _ _ _ _ _ (@pe_glob _ _ (v:=.ref x4) _ _ rfl W.m_TooMany rfl (by decide)) (@pa_nil _) (by rfl)) (by rfl)) (by decide) (by decide) (by rfl) (by rfl)) (@pa_nil _) (by rfl)) (by decide) (by decide) (by rfl) (by rfl)) (fun _ _ => rfl))))))))),?_⟩
    have q1:=fun (hc:120 < cntR rs) H' s => q (.str "many") H' s (.inl ⟨hc,rfl⟩)
    have q2:=fun (hc:cntR rs <= 120) (hb:BadR rs) H' s => q (.str "none") H' s (.inr (.inl ⟨hc,hb,rfl⟩))
    have q3:=fun (hc:cntR rs <= 120) (hb:¬ BadR rs) l' H' (h0:H l' = none) s lq => q (.ref l') H' s (.inr (.inr ⟨hc,hb,l',rfl,h0,lq⟩))
    clear q
    walk_at "go"
    refine ⟨l,rs,rfl,hl,hn,fun hc H1 s1 => ?_,fun hc hb H1 s1 => ?_,fun hc hb l' H' hl' sm lq => ?_⟩
    . refine r_tryE R_TooMany.t fun y hy => ?_
      have t1:=s1.trans (Same.new (o:=excO y x4) hy)
      have y1:=upd_same (H:=H1) (a:=y) (o:=excO y x4)
      generalize L2.upd H1 y (excO y x4) = H2 at t1 y1 ⊢
      walk_at "go"
      refine r_isXt y1 R_TooMany.x R_TooMany.v ?_
      walk_at "go"
      refine r_isXc y1 R_TooMany.x R_TooMany.k4 ?_
      walk_at "go"
      refine r_isXc y1 R_TooMany.x R_TooMany.k1 ?_
      walk_at "go"
      refine r_lstK fun l9 hl9 => ?_
      have t9:=Same.new (o:=.lst [V.str "none",V.str "many"]) hl9
      have y9:=t9 _ _ y1
      walk_at "go"
      refine r_isXc y9 R_TooMany.x R_TooMany.k4 ?_
      walk_at "go"
      exact q1 hc _ (t1.trans t9)
    . refine r_tryE R_NoNet.t fun y hy => ?_
      have t1:=s1.trans (Same.new (o:=excO y x1) hy)
      have y1:=upd_same (H:=H1) (a:=y) (o:=excO y x1)
      generalize L2.upd H1 y (excO y x1) = H2 at t1 y1 ⊢
      walk_at "go"
      refine r_isXt y1 R_NoNet.x R_NoNet.v ?_
      walk_at "go"
      refine r_isXc y1 R_NoNet.x R_NoNet.k4 ?_
      walk_at "go"
      refine r_isXc y1 R_NoNet.x R_NoNet.k1 ?_
      walk_at "go"
      refine r_lstK fun l9 hl9 => ?_
      have t9:=Same.new (o:=.lst [V.str "none",V.str "many"]) hl9
      have y9:=t9 _ _ y1
      walk_at "go"
      refine r_isXc y9 R_NoNet.x R_NoNet.k4 ?_
      walk_at "go"
      exact q2 hc hb _ (t1.trans t9)
    . walk_at "go"
      exact q3 hc hb l' H' hl' sm lq
set_option maxHeartbeats 0 in
theorem ok_full (T:Bl mg) (d:Df K mg "_law_full" s_full ["_law_many","_law_names_here","_law_number_here"]  ) (W:XmS mg xt x1 x4) (R_NoNet:XrS K xt x1 x4 x1 1) (R_TooMany:XrS K xt x1 x4 x4 4):Okf P w K mg base (k + 1) "_law_full" ["_law_many","_law_names_here","_law_number_here"] spFull73:=by
  refine Okf.of d sc_full (fun vs H Q E h => ?_) (fun f cdv A outer s H vs Q E hr h => ?_)
  . obtain ⟨mm,c,ln,U,rfl,_⟩:=h
    rfl
  . obtain ⟨mm,c,ln,U,rfl,hm1,hm2,hc,hln,hUl,hU,q⟩:=h
    refine ⟨_,(@pss_cons _ _ _ _ _ (@ps_set _ _ (i:=3) _ _ _ _ sc_full.nd rfl (by first | exact Or.inl rfl | exact Or.inr rfl) (@pe_op _ _ _ _ _ _ _ _ op_addA (@pe_int _ _ _ _) (@pe_op _ _ _ _ _ _ _ _ op_mod (pv 2) (@pe_int _ _ _ _))) (by rfl) (by first | exact .inl rfl | exact .inr rfl | assumption)) (@pss_cons _ _ _ _ _ (@ps_set _ _ (i:=4) _ _ _ _ sc_full.nd rfl (by first | exact Or.inl rfl | exact Or.inr rfl) (@pe_op _ _ _ _ _ _ _ _ op_sub (@pe_op _ _ _ _ _ _ _ _ op_sub (pv 0) (pv 3)) (@pe_int _ _ _ _)) (by rfl) (by first | exact .inl rfl | exact .inr rfl | assumption)) (@pss_cons _ _ _ _ _ (@ps_set _ _ (i:=5) _ _ _ _ sc_full.nd rfl (by first | exact Or.inl rfl | exact Or.inr rfl) (@pe_lst _ _ _ _ (@pa_cons _ _ _ _ _ (@pe_tup _ _ _ _ _ (@pa_cons _ _ _ _ _ (@pe_str _ _ _ _) (@pa_cons _ _ _ _ _ (@pe_ix _ _ _ _ _ _ _ ix_LT (pv 1) (@pe_int _ _ _ _) (fun _ _ => rfl)) (@pa_cons _ _ _ _ _ (@pe_ix _ _ _ _ _ _ _ ix_LT (pv 1) (@pe_op _ _ _ _ _ _ _ _ op_sub (@pe_int _ _ _ _) (@pe_callTy _ _ _ _ _ _ _ _ _ c_int rfl T.z_int bt_int (@pa_cons _ _ _ _ _ (@pe_cmpR _ _ _ _ _ _ _ _ (op_eqA hr.units) (@pe_op _ _ _ _ _ _ _ _ op_mod (@pe_op _ _ _ _ _ _ _ _ op_fdivB (pv 2) (@pe_int _ _ _ _)) (@pe_int _ _ _ _)) (@pe_int _ _ _ _) (nomark _)) (@pa_nil _) (by rfl)) (by decide) (by decide) (by rfl) (by rfl))) (fun _ _ => rfl)) (@pa_cons _ _ _ _ _ (@pe_tup _ _ _ _ _ (@pa_cons _ _ _ _ _ (@pe_int _ _ _ _) (@pa_cons _ _ _ _ _ (@pe_int _ _ _ _) (@pa_nil _) (by rfl)) (by rfl))) (@pa_nil _) (by rfl)) (by rfl)) (by rfl)) (by rfl))) (@pa_nil _) (by rfl))) (by rfl) (by first | exact .inl rfl | exact .inr rfl | assumption)) (@pss_cons _ _ _ _ _ (@ps_while _ _ _ _ _ _ PassesOwn.never (@pt_cmpR _ _ _ _ _ _ _ _ op_gt (pv 4) (@pe_int _ _ _ _) (nomark _)) (@pss_cons _ _ _ _ _ (@ps_set _ _ (i:=6) _ _ _ _ sc_full.nd rfl (by first | exact Or.inl rfl | exact Or.inr rfl) (@pe_callB _ _ _ _ _ _ _ _ _ (c_min rfl) rfl T.z_min bt_min (@pa_cons _ _ _ _ _ (pv 4) (@pa_cons _ _ _ _ _ (@pe_op _ _ _ _ _ _ _ _ op_addA (@pe_int _ _ _ _) (@pe_op _ _ _ _ _ _ _ _ op_mod (@pe_op _ _ _ _ _ _ _ _ op_fdivB (pv 2) (@pe_int _ _ _ _)) (@pe_int _ _ _ _))) (@pa_nil _) (by rfl)) (by rfl)) (by decide) (by decide) (by rfl) (by rfl)) (by rfl) (by first | exact .inl rfl | exact .inr rfl | assumption)) (@pss_cons _ _ _ _ _ (@ps_expr _ _ _ _ (@pe_bm _ _ _ _ _ _ _ _ _ _ _ _ PySem.F.plainAttrs_list PySem.F.slot_list_append PySem.F.type_list_append mt_append (pv 5) (@pa_cons _ _ _ _ _ (@pe_tup _ _ _ _ _ (@pa_cons _ _ _ _ _ (@pe_str _ _ _ _) (@pa_cons _ _ _ _ _ (@pe_tup _ _ _ _ _ (@pa_cons _ _ _ _ _ (@pe_op _ _ _ _ _ _ _ _ op_addA (@pe_op _ _ _ _ _ _ _ _ op_mulB (@pe_int _ _ _ _) (pv 4)) (@pe_int _ _ _ _)) (@pa_cons _ _ _ _ _ (@pe_int _ _ _ _) (@pa_nil _) (by rfl)) (by rfl))) (@pa_cons _ _ _ _ _ (@pe_callTy _ _ _ _ _ _ _ _ _ call_tuple_of rfl T.z_tuple bt_tuple (@pa_cons _ _ _ _ _ (@pe_comp _ _ _ _ _ _ _ _ _ _ _ _ _ _ (@comp_ck _ _ (sc:=defScope s_full) (N:=["_law_many","_law_names_here","_law_number_here","_law_size","_law_left","_law_rows","_law_wide"]) (tn:=["_law_j"]) (names:=["_law_rows","_law_names_here"]) (is:=[5,1]) rfl rfl (by decide +kernel) (by decide +kernel) rfl (by decide +kernel) rfl (by decide +kernel) (by decide +kernel) (by decide +kernel)) rfl (@pi_range1 _ _ _ _ _ _ rfl T.z_range (@pa_cons _ _ _ _ _ (@pe_op _ _ _ _ _ _ _ _ op_addA (pv 6) (@pe_int _ _ _ _)) (@pa_nil _) (by rfl)) (by rfl)) (fun _ _ _ _ => (@pg_name _ _ (i:=0) _ (show (["_law_j","_law_rows","_law_names_here"]:List Str).Nodup by decide +kernel) rfl (Or.inl rfl) (Or.inr rfl))) (fun _ _ _ _ => (@pe_ix _ _ _ _ _ _ _ ix_LTc (pv 2) (@pe_op _ _ _ _ _ _ _ _ op_mod (@pe_op _ _ _ _ _ _ _ _ op_addAc (@pe_callB _ _ _ _ _ _ _ _ _ c_lenc rfl T.z_len bt_len (@pa_cons _ _ _ _ _ (pv 1) (@pa_nil _) (by rfl)) (by decide) (by decide) (by rfl) (by rfl)) (pv 0)) (@pe_int _ _ _ _)) (fun _ _ => rfl))) (fun _ _ _ _ => (@pts_none _)) (by intro _; rfl)) (@pa_nil _) (by rfl)) (by decide) (by decide) (by rfl) (by rfl)) (@pa_nil _) (by rfl)) (by rfl)) (by rfl))) (@pa_nil _) (by rfl)) (by rfl) (by rfl) (by rfl) (by rfl) (by rfl)) (by rfl)) (@pss_one _ _ _ (@ps_set _ _ (i:=4) _ _ _ _ sc_full.nd rfl (by first | exact Or.inl rfl | exact Or.inr rfl) (@pe_op _ _ _ _ _ _ _ _ op_sub (pv 4) (pv 6)) (by rfl) (by first | exact .inl rfl | exact .inr rfl | assumption)))))) (@pss_cons _ _ _ _ _ (@ps_expr _ _ _ _ (@pe_bm _ _ _ _ _ _ _ _ _ _ _ _ PySem.F.plainAttrs_list PySem.F.slot_list_insert PySem.F.type_list_insert mt_insert (pv 5) (@pa_cons _ _ _ _ _ (@pe_op _ _ _ _ _ _ _ _ op_mod (@pe_op _ _ _ _ _ _ _ _ op_fdivB (pv 2) (@pe_int _ _ _ _)) (@pe_callB _ _ _ _ _ _ _ _ _ c_len rfl T.z_len bt_len (@pa_cons _ _ _ _ _ (pv 5) (@pa_nil _) (by rfl)) (by decide) (by decide) (by rfl) (by rfl))) (@pa_cons _ _ _ _ _ (@pe_bm _ _ _ _ _ _ _ _ _ _ _ _ PySem.F.plainAttrs_list PySem.F.slot_list_pop PySem.F.type_list_pop mt_popAt (pv 5) (@pa_cons _ _ _ _ _ (@pe_int _ _ _ _) (@pa_nil _) (by rfl)) (by rfl) (by rfl) (by rfl) (by rfl) (by rfl)) (@pa_nil _) (by rfl)) (by rfl)) (by rfl) (by rfl) (by rfl) (by rfl) (by rfl)) (by rfl)) (@pss_one _ _ _ (@ps_ret _ _ _ _ (@pe_op _ _ _ _ _ _ _ _ op_addA (pv 5) (@pe_lst _ _ _ _ (@pa_cons _ _ _ _ _ (@pe_tup _ _ _ _ _ (@pa_cons _ _ _ _ _ (@pe_str _ _ _ _) (@pa_cons _ _ _ _ _ (@pe_tup _ _ _ _ _ (@pa_cons _ _ _ _ _ (@pe_int _ _ _ _) (@pa_cons _ _ _ _ _ (@pe_int _ _ _ _) (@pa_nil _) (by rfl)) (by rfl))) (@pa_cons _ _ _ _ _ (@pe_callTy _ _ _ _ _ _ _ _ _ call_tuple_of rfl T.z_tuple bt_tuple (@pa_cons _ _ _ _ _ (@pe_slice _ _ _ _ _ _ _ _ _ _ sl_any (pv 1) (@po_none _) (@po_some _ _ _ (pv 3))) (@pa_nil _) (by rfl)) (by decide) (by decide) (by rfl) (by rfl)) (@pa_nil _) (by rfl)) (by rfl)) (by rfl))) (@pa_nil _) (by rfl))))))))))),?_⟩
    have one:∀ {s:Str},s ∈ U -> PostS s:=fun {s} hs => by
      have:=join_post (x:=s) (r:=[]) (fun p hp => by rw [List.mem_singleton.mp hp]; exact hU s hs) (by decide)
      exact this
    walk_at "go"
    obtain ⟨sz,hsz,esz⟩:∃ sz:Nat,(3 <= sz /\ sz <= 6) /\ 3 + c % 4 = (sz:Int):=⟨(3 + c % 4).toNat,by omega,by omega⟩
    rw [esz]
    obtain ⟨s1,m1,e1⟩:=pickS' (nm:=U) (i:=0) (by decide) (by omega)
    refine r_ixl hln e1 ?_
    walk_at "go"
    have zi:0 <= (1 - if decide (c.fdiv 4 % 3 = 0) = true then (1:Int) else 0) /\ (1 - if decide (c.fdiv 4 % 3 = 0) = true then (1:Int) else 0) < 8:=by split <;> omega
    generalize (1 - if decide (c.fdiv 4 % 3 = 0) = true then (1:Int) else 0) = i2 at zi ⊢
    obtain ⟨s2,m2,e2⟩:=pickS' (nm:=U) zi.1 (by omega)
    refine r_ixl hln e2 ?_
    walk_at "go"
    refine r_tupK fun pt hpt => ?_
    have t1:=Same.new (o:=.tup [.int 1,.int 2]) hpt
    have gt:=upd_same (H:=H) (a:=pt) (o:=.tup [.int 1,.int 2])
    generalize L2.upd H pt (.tup [.int 1,.int 2]) = H1 at t1 gt ⊢
    walk_at "go"
    refine r_tupK fun pr hpr => ?_
    have t12:=Same.new (o:=.tup [.str "run",.str s1,.str s2,.ref pt]) hpr
    have gr:=upd_same (H:=H1) (a:=pr) (o:=.tup [.str "run",.str s1,.str s2,.ref pt])
    generalize L2.upd H1 pr (.tup [.str "run",.str s1,.str s2,.ref pt]) = H2 at t12 gr ⊢
    have t2:=t1.trans t12
    have rq0:PRowQ H2 (.ref pr) (.run s1 s2 (Rat.divInt 1 2)):=⟨pr,_,rfl,gr,(FrQ.of2 (by decide) (by decide) gt).tk t12.tk⟩
    have ok0:okQ (.run s1 s2 (Rat.divInt 1 2)):=okP.q ⟨one m1,one m2,TimR.of2 (by decide) (by decide) (by decide) (by decide) (by decide)⟩
    walk_at "go"
    refine r_lstK fun lr hlr => ?_
    have hlr0:=t2.free hlr
    walk_at "go"
    refine r_whileO (fun m σ G => ∃ (o6:Option V) (xs:List V) (rs:List PRow),σ = [some (.int mm),some (.ref ln),some (.int c),some (.int (sz:Int)),some (.int (m:Int)),some (.ref lr),o6] /\ m < 135 /\ Kp lr H2 G /\ TK H2 G /\ G lr = some (.lst xs) /\ Paired (PRowQ G) xs rs /\ (∀ r ∈ rs,okQ r) /\ 1 <= xs.length /\ xs.length + m <= 300) (m0:=(mm - sz - 1).toNat) ⟨none,[.ref pr],[.run s1 s2 (Rat.divInt 1 2)],by rw [show (((mm - sz - 1).toNat:Nat):Int) = mm - sz - 1 by omega]; rfl,by omega,Kp.new hlr,TK.new hlr,upd_same,.cons (rq0.tk (TK.new hlr)) .nil,fun r hr => by rw [List.mem_singleton.mp hr]; exact ok0,Nat.le_refl _,by show 1 + _ <= _; omega⟩ ?_
    rintro m σ G ⟨o6,xs,rs,rfl,hm,kp,tk,hxs,pr',hok,hx1,hx2⟩
    have hlnG:=kp _ _ (ne_of_none (t2 _ _ hln) hlr) (t2 _ _ hln)
    walk_at "go"
    refine i_d (fun hm0 => ?_) (fun hm0 => ?_)
    . refine ⟨fun σ' G' => ∃ m',m' < m /\ ∃ (o6:Option V) (xs:List V) (rs:List PRow),σ' = [some (.int mm),some (.ref ln),some (.int c),some (.int (sz:Int)),some (.int (m':Int)),some (.ref lr),o6] /\ m' < 135 /\ Kp lr H2 G' /\ TK H2 G' /\ G' lr = some (.lst xs) /\ Paired (PRowQ G') xs rs /\ (∀ r ∈ rs,okQ r) /\ 1 <= xs.length /\ xs.length + m' <= 300,fun σ' G' h => h,?_⟩
      walk_at "go"
      obtain ⟨w,hw,ew⟩:∃ w:Nat,(1 <= w /\ w <= 20 /\ w <= m) /\ (if 3 + c.fdiv 12 % 17 < (m:Int) then 3 + c.fdiv 12 % 17 else (m:Int)) = (w:Int):=by
        have b0:0 <= c.fdiv 12 % 17 /\ c.fdiv 12 % 17 < 17:=by omega
        by_cases h:3 + c.fdiv 12 % 17 < (m:Int)
        . rw [if_pos h]
          exact ⟨(3 + c.fdiv 12 % 17).toNat,by omega,by omega⟩
        . rw [if_neg h]
          exact ⟨m,by omega,rfl⟩
      rw [ew]
      clear ew
      refine r_tupK fun pq hpq => ?_
      have t3:=Same.new (o:=.tup [.int (7 * (m:Int) + 1),.int 7]) hpq
      have gq:=upd_same (H:=G) (a:=pq) (o:=.tup [.int (7 * (m:Int) + 1),.int 7])
      generalize L2.upd G pq (.tup [.int (7 * (m:Int) + 1),.int 7]) = G1 at t3 gq ⊢
      have hln1:=t3 _ _ hlnG
      have hxs1:=t3 _ _ hxs
      have g7:Int.gcd (7 * (m:Int) + 1) 7 = 1:=ne7 m (by omega)
      walk_at "go"
      refine r_rng1K (by omega) (by omega) ?_
      refine r_compR (n:=((w:Int) + 1).toNat) (by omega) (fun acc k ys G' => Kp acc G1 G' /\ ∃ ps:List Str,ys = ps.map V.str /\ ∀ s ∈ ps,s ∈ U) ?_ ?_ ?_
      . intro acc h0
        exact ⟨Kp.new h0,[],rfl,fun _ h => nomatch h⟩
      . rintro acc k ys G' h0 hk hyl hG' ⟨kp',ps,rfl,hps⟩
        have hxs':=kp' _ _ (ne_of_none hxs1 h0) hxs1
        walk_at "go"
        obtain ⟨s3,m3,e3⟩:=pickS' (nm:=U) (i:=((xs.length:Int) + (0 + (k:Int))) % 8) (Int.emod_nonneg _ (by decide)) (by have:=Int.emod_lt_of_pos ((xs.length:Int) + (0 + (k:Int))) (show (0:Int) < 8 by decide); omega)
        refine r_ixl (kp' _ _ (ne_of_none hln1 h0) hln1) e3 ?_
        refine c_next hk hyl hG' ⟨kp'.trans Kp.upd,ps ++ [s3],by simp,fun s hs => ?_⟩
        rcases List.mem_append.mp hs with h | h
        . exact hps s h
        . rw [List.mem_singleton.mp h]
          exact m3
      rintro acc ys G' h0 hG' hyl ⟨kp',ps,rfl,hps⟩
      rw [List.length_map] at hyl
      have sG':Same G1 G':=fun b o h => kp' _ _ (ne_of_none h h0) h
      walk_at "go"
      refine ⟨acc,_,rfl,.inl ⟨SqL.of hG',fun p6 hp6 => ?_⟩⟩
      have t6:=sG'.trans (Same.new (o:=.tup (ps.map V.str)) hp6)
      have g6:=upd_same (H:=G') (a:=p6) (o:=.tup (ps.map V.str))
      generalize L2.upd G' p6 (.tup (ps.map V.str)) = G3 at t6 g6 ⊢
      walk_at "go"
      refine r_tupK fun p7 hp7 => ?_
      have t67:=Same.new (o:=.tup [.str "row",.ref pq,.ref p6]) hp7
      have g77:=upd_same (H:=G3) (a:=p7) (o:=.tup [.str "row",.ref pq,.ref p6])
      generalize L2.upd G3 p7 (.tup [.str "row",.ref pq,.ref p6]) = G4 at t67 g77 ⊢
      have t4:=t3.trans (t6.trans t67)
      walk_at "go"
      refine r_app (t4 _ _ hxs) (by omega) ?_
      have tk2:=TK.lst (o:=.lst (xs ++ [.ref p7])) (t4 _ _ hxs)
      walk_at "go"
      refine ⟨m - w,by omega,_,xs ++ [.ref p7],rs ++ [.path .row (Rat.divInt (7 * (m:Int) + 1) 7) ps],by rw [show ((m - w:Nat):Int) = (m:Int) - (w:Int) by omega]; rfl,by omega,(kp.trans t4.kp).trans Kp.upd,(tk.trans t4.tk).trans tk2,upd_same,?_,?_,by rw [List.length_append]; omega,by rw [List.length_append]; show _ + 1 + _ <= _; omega⟩
      . exact Pd.snoc (Pd.imp pr' fun v b f => (f.tk t4.tk).tk tk2) ⟨p7,_,p6,rfl,tk2 _ _ g77,((((FrQ.of2 (by decide) g7 gq).tk t6.tk).tk t67.tk).tk tk2),tk2 _ _ (t67 _ _ g6)⟩
      . intro r hr
        rcases List.mem_append.mp hr with h | h
        . exact hok r h
        . rw [List.mem_singleton.mp h]
          exact okP.q ⟨fun s hs => one (hps s hs),TimR.of2 (by omega) (by omega) (by decide) (by decide) g7,by omega,by omega,fun z => nomatch z⟩
    walk_at "go"
    obtain ⟨x0,xr,rfl⟩:∃ x0 xr,xs = x0 :: xr:=by
      cases xs with
      | nil => exact absurd hx1 (by decide)
      | cons a b => exact ⟨a,b,rfl⟩
    obtain ⟨r0,rr,rfl,h00,hrr⟩:∃ r0 rr,rs = r0 :: rr /\ PRowQ G x0 r0 /\ Paired (PRowQ G) xr rr:=by
      cases pr' with
      | cons h t => exact ⟨_,_,rfl,h,t⟩
    refine ⟨lr,_,0,0,x0,rfl,rfl,hxs,by decide,by decide,by unfold seqIndex?; simp,rfl,?_⟩
    have tk3:=TK.lst (o:=.lst xr) hxs
    have kp3:Kp lr G (L2.upd G lr (.lst xr)):=Kp.upd
    have g3:=upd_same (H:=G) (a:=lr) (o:=.lst xr)
    show tNil _ (L2.upd G lr (.lst xr)) _
    generalize L2.upd G lr (.lst xr) = G1 at tk3 kp3 g3 ⊢
    walk_at "go"
    have hlen:((x0 :: xr).length:Int) = xr.length + 1:=by rw [List.length_cons]; omega
    obtain ⟨j,hj,ej⟩:∃ j:Nat,j <= xr.length /\ c.fdiv 204 % ((x0 :: xr).length:Int) = (j:Int):=by
      have a0:=Int.emod_nonneg (c.fdiv 204) (show ((x0 :: xr).length:Int) ≠ 0 by omega)
      have a1:=Int.emod_lt_of_pos (c.fdiv 204) (show (0:Int) < ((x0 :: xr).length:Int) by omega)
      exact ⟨(c.fdiv 204 % ((x0 :: xr).length:Int)).toNat,by omega,by omega⟩
    rw [ej]
    rw [List.length_cons] at hx2
    refine r_insert g3 hj (by omega) ?_
    have tk4:=TK.lst (o:=.lst (xr.take j ++ x0 :: xr.drop j)) g3
    have kp4:Kp lr G1 (L2.upd G1 lr (.lst (xr.take j ++ x0 :: xr.drop j))):=Kp.upd
    have g4:=upd_same (H:=G1) (a:=lr) (o:=.lst (xr.take j ++ x0 :: xr.drop j))
    generalize L2.upd G1 lr (.lst (xr.take j ++ x0 :: xr.drop j)) = G2 at tk4 kp4 g4 ⊢
    have tk5:=tk3.trans tk4
    have kp5:=(kp.trans kp3).trans kp4
    have pq:Paired (PRowQ G2) (xr.take j ++ x0 :: xr.drop j) (rr.take j ++ r0 :: rr.drop j):=by
      have p1:=Pd.imp hrr fun v b f => PRowQ.tk f tk5
      exact pd_app (Pd.tak p1 j) (.cons (h00.tk tk5) (Pd.drp p1 j))
    have hok':∀ r ∈ rr.take j ++ r0 :: rr.drop j,okQ r:=fun r hr => by
      rcases List.mem_append.mp hr with h | h
      . exact hok r (List.mem_cons_of_mem _ (List.mem_of_mem_take h))
      . rcases List.mem_cons.mp h with h | h
        . rw [h]; exact hok _ (by simp)
        . exact hok r (List.mem_cons_of_mem _ (List.mem_of_mem_drop h))
    have hl4:(xr.take j ++ x0 :: xr.drop j).length <= 305:=by
      rw [List.length_append,List.length_cons,List.length_take,List.length_drop]
      omega
    generalize xr.take j ++ x0 :: xr.drop j = ys at g4 pq hl4
    generalize rr.take j ++ r0 :: rr.drop j = qs at pq hok'
    have hln2:=kp5 _ _ (ne_of_none (t2 _ _ hln) hlr) (t2 _ _ hln)
    walk_at "go"
    refine r_tupK fun pf hpf => ?_
    have v1:=Same.new (o:=.tup [.int 5,.int 3]) hpf
    have gf:=upd_same (H:=G2) (a:=pf) (o:=.tup [.int 5,.int 3])
    generalize L2.upd G2 pf (.tup [.int 5,.int 3]) = G3 at v1 gf ⊢
    walk_at "go"
    refine s_lst (v1 _ _ hln2) fun l5 hl5 => ?_
    rw [cut_n,← List.map_take]
    have v2:=Same.new (o:=.lst ((U.take sz).map V.str)) hl5
    have g5:=upd_same (H:=G3) (a:=l5) (o:=.lst ((U.take sz).map V.str))
    generalize L2.upd G3 l5 (.lst ((U.take sz).map V.str)) = G4 at v2 g5 ⊢
    walk_at "go"
    refine ⟨l5,_,rfl,.inl ⟨SqL.of g5,fun p6 hp6 => ?_⟩⟩
    have v3:=Same.new (o:=.tup ((U.take sz).map V.str)) hp6
    have g6:=upd_same (H:=G4) (a:=p6) (o:=.tup ((U.take sz).map V.str))
    generalize L2.upd G4 p6 (.tup ((U.take sz).map V.str)) = G5 at v3 g6 ⊢
    walk_at "go"
    refine r_tupK fun p7 hp7 => ?_
    have v4:=Same.new (o:=.tup [.str "ring",.ref pf,.ref p6]) hp7
    have g7:=upd_same (H:=G5) (a:=p7) (o:=.tup [.str "ring",.ref pf,.ref p6])
    generalize L2.upd G5 p7 (.tup [.str "ring",.ref pf,.ref p6]) = G6 at v4 g7 ⊢
    have w4:=(v1.trans v2).trans (v3.trans v4)
    walk_at "go"
    refine r_lstK fun l8 hl8 => ?_
    have v5:=Same.new (o:=.lst [.ref p7]) hl8
    have g8:=upd_same (H:=G6) (a:=l8) (o:=.lst [.ref p7])
    generalize L2.upd G6 l8 (.lst [.ref p7]) = G7 at v5 g8 ⊢
    have w5:=w4.trans v5
    walk_at "go"
    refine a_lst (w5 _ _ g4) g8 (by show _ + 1 <= _; omega) fun l9 hl9 => ?_
    have v6:=Same.new (o:=.lst (ys ++ [.ref p7])) hl9
    have w6:=w5.trans v6
    have sfin:Same H (L2.upd G7 l9 (.lst (ys ++ [.ref p7]))):=t2.trans fun b o h => w6 _ _ (kp5 _ _ (ne_of_none h hlr) h)
    have hlt:(U.take sz).length = sz:=by rw [List.length_take]; omega
    walk_at "go"
    refine q l9 _ (qs ++ [.path .ring (Rat.divInt 5 3) (U.take sz)]) sfin ⟨_,upd_same,?_⟩ fun r hr => ?_
    . exact Pd.snoc (Pd.imp pq fun v b f => PRowQ.tk f w6.tk) ⟨p7,_,p6,rfl,v6 _ _ (v5 _ _ g7),((FrQ.of2 (by decide) (by decide) gf).tk ((v2.trans v3).trans ((v4.trans v5).trans v6)).tk),(v4.trans (v5.trans v6)) _ _ g6⟩
    . rcases List.mem_append.mp hr with h | h
      . exact hok' r h
      . rw [List.mem_singleton.mp h]
        exact okP.q ⟨fun s hs => one (List.mem_of_mem_take hs),TimR.of2 (by decide) (by decide) (by decide) (by decide) (by decide),by omega,by omega,fun _ => by omega⟩
set_option maxHeartbeats 0 in
theorem ok_law {f:Addr} {fd:FuncData} (T:Bl mg) (F:Fun K "law" "law" s_law f fd) (W:XmS mg xt x1 x4) (R_NoNet:XrS K xt x1 x4 x1 1) (R_TooMany:XrS K xt x1 x4 x4 4) (o_told:Okf P w K mg base k "_law_told" ["_law_rows"] (spTold73 K)) (o_due:Okf P w K mg base k "_law_due" ["_law_rows"] (spDue73 K)) (o_number:Okf P w K mg base k "_law_number" ["_law_script","_law_k"] (spNumW K)) (o_full:Okf P w K mg base k "_law_full" ["_law_many","_law_names_here","_law_number_here"] spFull73) (o_opened:OkfX P w K mg base k "opened" ["rows"] [] (spOpened x1 x4)) (o_plain:Okf P w K mg base k "_law_plain" ["_law_number_here","_law_names_here"] spPlain73) (o_names:Okf P w K mg base k "_law_names" ["_law_script"] (spNames73 K)):FnOk P w K mg base CX0 (k + 1) f fd ["_law_script"] (spLaw K):=by
  refine F.ok sc_law (fun vs H Q E h => ?_) (fun cdv A outer s H vs Q E hr h => ?_)
  . obtain ⟨a,ns,rfl,_⟩:=h
    rfl
  . obtain ⟨a,ns,rfl,hS,h63,q⟩:=h
    refine ⟨_,(@pss_cons _ _ _ _ _ (@ps_set _ _ (i:=1) _ _ _ _ sc_law.nd rfl (by first | exact Or.inl rfl | exact Or.inr rfl) (@pe_callO _ _ _ _ _ _ _ _ _ _ o_names hr rfl (@pa_cons _ _ _ _ _ (pv 0) (@pa_nil _) (by rfl)) (by decide) (by rfl) (by rfl)) (by rfl) (by first | exact .inl rfl | exact .inr rfl | assumption)) (@pss_cons _ _ _ _ _ (@ps_setC _ _ _ _ _ _ _ _ _ _ _ _ _ _ (i:=2) _ _ _ sc_law.nd rfl (by first | exact Or.inl rfl | exact Or.inr rfl) (@comp_ck _ _ (sc:=defScope s_law) (N:=["_law_script","_law_names_here","_law_rows","_law_handed","_law_due_here","_law_many","_law_some"]) (tn:=["_law_k"]) (names:=["_law_script","_law_names_here"]) (is:=[0,1]) rfl rfl (by decide +kernel) (by decide +kernel) rfl (by decide +kernel) rfl (by decide +kernel) (by decide +kernel) (by decide +kernel)) rfl (@pi_range2 _ _ _ _ _ _ _ rfl T.z_range (@pa_cons _ _ _ _ _ (@pe_int _ _ _ _) (@pa_cons _ _ _ _ _ (@pe_callB _ _ _ _ _ _ _ _ _ (c_min rfl) rfl T.z_min bt_min (@pa_cons _ _ _ _ _ (@pe_callB _ _ _ _ _ _ _ _ _ c_len rfl T.z_len bt_len (@pa_cons _ _ _ _ _ (pv 0) (@pa_nil _) (by rfl)) (by decide) (by decide) (by rfl) (by rfl)) (@pa_cons _ _ _ _ _ (@pe_int _ _ _ _) (@pa_nil _) (by rfl)) (by rfl)) (by decide) (by decide) (by rfl) (by rfl)) (@pa_nil _) (by rfl)) (by rfl)) (by rfl) (by rfl)) (fun _ _ _ _ => (@pg_name _ _ (i:=0) _ (show (["_law_k","_law_script","_law_names_here"]:List Str).Nodup by decide +kernel) rfl (Or.inl rfl) (Or.inr rfl))) (fun _ _ _ _ => (@pe_callO _ _ _ _ _ _ _ _ _ _ o_plain hr rfl (@pa_cons _ _ _ _ _ (@pe_callO _ _ _ _ _ _ _ _ _ _ o_number hr rfl (@pa_cons _ _ _ _ _ (pv 1) (@pa_cons _ _ _ _ _ (pv 0) (@pa_nil _) (by rfl)) (by rfl)) (by decide) (by rfl) (by rfl)) (@pa_cons _ _ _ _ _ (pv 2) (@pa_nil _) (by rfl)) (by rfl)) (by decide) (by rfl) (by rfl))) (fun _ _ _ _ => (@pts_none _)) (by intro _; rfl) (by rfl) (by first | exact .inl rfl | exact .inr rfl | assumption)) (@pss_cons _ _ _ _ _ (@ps_set _ _ (i:=3) _ _ _ _ sc_law.nd rfl (by first | exact Or.inl rfl | exact Or.inr rfl) (@pe_callTy _ _ _ _ _ _ _ _ _ c_list rfl T.z_list bt_list (@pa_cons _ _ _ _ _ (pv 2) (@pa_nil _) (by rfl)) (by decide) (by decide) (by rfl) (by rfl)) (by rfl) (by first | exact .inl rfl | exact .inr rfl | assumption)) (@pss_cons _ _ _ _ _ (@ps_set _ _ (i:=4) _ _ _ _ sc_law.nd rfl (by first | exact Or.inl rfl | exact Or.inr rfl) (@pe_callO _ _ _ _ _ _ _ _ _ _ o_due hr rfl (@pa_cons _ _ _ _ _ (pv 2) (@pa_nil _) (by rfl)) (by decide) (by rfl) (by rfl)) (by rfl) (by first | exact .inl rfl | exact .inr rfl | assumption)) (@pss_cons _ _ _ _ _ (@ps_if _ _ _ _ _ _ _ _ (@PW.pt _ _ _ (@pw_or _ _ _ _ _ _ _ (@pt_cmpR _ _ _ _ _ _ _ _ (op_neA hr.units) (@pe_callO _ _ _ _ _ _ _ _ _ _ o_told hr rfl (@pa_cons _ _ _ _ _ (pv 3) (@pa_nil _) (by rfl)) (by decide) (by rfl) (by rfl)) (pv 4) (nomark _)) (@pw_or1 _ _ _ _ (@pt_cmpR _ _ _ _ _ _ _ _ (op_neA hr.units) (pv 3) (pv 2) (nomark _))))) (@pss_one _ _ _ (@ps_ret _ _ _ _ (@pe_bl _ _ _ _))) (@pss_nil _)) (@pss_cons _ _ _ _ _ (@ps_if _ _ _ _ _ _ _ _ (@pt_val _ _ _ (@pe_callB _ _ _ _ _ _ _ _ _ (call_isTy (T:="list")) rfl T.z_isinstance bt_isinstance (@pa_cons _ _ _ _ _ (pv 4) (@pa_cons _ _ _ _ _ (@pe_bltn _ _ (v:=.ty "list") _ _ rfl T.z_list bt_list rfl (by decide) (by decide)) (@pa_nil _) (by rfl)) (by rfl)) (by decide) (by decide) (by rfl) (by rfl)) (by intro _; rfl)) (@pss_cons _ _ _ _ _ (@ps_expr _ _ _ _ (@pe_bm _ _ _ _ _ _ _ _ _ _ _ _ PySem.F.plainAttrs_list PySem.F.slot_list_append PySem.F.type_list_append mt_append (@pe_callX _ _ _ _ _ _ _ _ _ _ _ _ o_opened hr rfl passN (@pa_cons _ _ _ _ _ (pv 3) (@pa_nil _) (by rfl)) (by decide) (by rfl) (by rfl)) (@pa_cons _ _ _ _ _ (@pe_non _ _ _) (@pa_nil _) (by rfl)) (by rfl) (by rfl) (by rfl) (by rfl) (by rfl)) (by rfl)) (@pss_one _ _ _ (@ps_if _ _ _ _ _ _ _ _ (@pt_cmpR _ _ _ _ _ _ _ _ (op_neA hr.units) (@pe_callO _ _ _ _ _ _ _ _ _ _ o_told hr rfl (@pa_cons _ _ _ _ _ (pv 3) (@pa_nil _) (by rfl)) (by decide) (by rfl) (by rfl)) (pv 4) (nomark _)) (@pss_one _ _ _ (@ps_ret _ _ _ _ (@pe_bl _ _ _ _))) (@pss_nil _)))) (@pss_nil _)) (@pss_cons _ _ _ _ _ (@ps_for _ _ _ _ _ _ _ _ PassesOwn.never rfl (@pi_list _ _ _ _ (@pe_lst _ _ _ _ (@pa_cons _ _ _ _ _ (@pe_int _ _ _ _) (@pa_cons _ _ _ _ _ (@pe_int _ _ _ _) (@pa_cons _ _ _ _ _ (@pe_int _ _ _ _) (@pa_cons _ _ _ _ _ (@pe_int _ _ _ _) (@pa_nil _) (by rfl)) (by rfl)) (by rfl)) (by rfl)))) (@pg_name _ _ (i:=5) _ sc_law.nd rfl (by first | exact Or.inl rfl | exact Or.inr rfl) (by first | exact .inl rfl | exact .inr rfl | assumption)) (@pss_cons _ _ _ _ _ (@ps_set _ _ (i:=6) _ _ _ _ sc_law.nd rfl (by first | exact Or.inl rfl | exact Or.inr rfl) (@pe_callO _ _ _ _ _ _ _ _ _ _ o_full hr rfl (@pa_cons _ _ _ _ _ (pv 5) (@pa_cons _ _ _ _ _ (pv 1) (@pa_cons _ _ _ _ _ (@pe_callO _ _ _ _ _ _ _ _ _ _ o_number hr rfl (@pa_cons _ _ _ _ _ (pv 0) (@pa_cons _ _ _ _ _ (@pe_int _ _ _ _) (@pa_nil _) (by rfl)) (by rfl)) (by decide) (by rfl) (by rfl)) (@pa_nil _) (by rfl)) (by rfl)) (by rfl)) (by decide) (by rfl) (by rfl)) (by rfl) (by first | exact .inl rfl | exact .inr rfl | assumption)) (@pss_one _ _ _ (@ps_if _ _ _ _ _ _ _ _ (@pt_cmpR _ _ _ _ _ _ _ _ (op_neA hr.units) (@pe_callO _ _ _ _ _ _ _ _ _ _ o_told hr rfl (@pa_cons _ _ _ _ _ (pv 6) (@pa_nil _) (by rfl)) (by decide) (by rfl) (by rfl)) (@pe_callO _ _ _ _ _ _ _ _ _ _ o_due hr rfl (@pa_cons _ _ _ _ _ (pv 6) (@pa_nil _) (by rfl)) (by decide) (by rfl) (by rfl)) (nomark _)) (@pss_one _ _ _ (@ps_ret _ _ _ _ (@pe_bl _ _ _ _))) (@pss_nil _)))) (by intro _; rfl)) (@pss_one _ _ _ (@ps_ret _ _ _ _ (@pe_cmpR _ _ _ _ _ _ _ _ (op_eqA hr.units) (@pe_callO _ _ _ _ _ _ _ _ _ _ o_told hr rfl (@pa_cons _ _ _ _ _ (@pe_lst _ _ _ _ (@pa_nil _)) (@pa_nil _) (by rfl)) (by decide) (by rfl) (by rfl)) (@pe_str _ _ _ _) (nomark _))))))))))),?_⟩
    walk_at "go"
    refine ⟨a,ns,rfl,hS,fun ln H1 U hln s1 hU hU8 hUp => ?_⟩
    walk_at "go"
    have hS1:=s1.seq hS
    refine r_lenL hS1 ?_
    walk_at "go"
    rw [List.length_map]
    obtain ⟨m,hm,em⟩:∃ m:Nat,m <= 52 /\ (if (52:Int) < (ns.length:Int) then (52:Int) else (ns.length:Int)) = (m:Int):=by
      by_cases h:(52:Int) < (ns.length:Int)
      . exact ⟨52,by decide,by rw [if_pos h]; rfl⟩
      . exact ⟨ns.length,by omega,by rw [if_neg h]⟩
    rw [em]
    clear em
    refine r_rng2K (by decide) (by decide) (by omega) (by omega) ?_
    refine r_compR (n:=((m:Int) - 2).toNat) (by omega) (fun acc i ys G => Kp acc H1 G /\ ∃ rs:List PRow,Paired (PRowQ G) ys rs /\ ∀ r ∈ rs,okQ r) ?_ ?_ ?_
    . intro acc h0
      exact ⟨Kp.new h0,[],.nil,fun _ h => nomatch h⟩
    . rintro acc i ys G h0 hi hyl hG ⟨kp,rs,pr,hok⟩
      have sG:Same H1 G:=fun b o h => kp _ _ (ne_of_none h h0) h
      walk_at "go"
      refine ⟨a,ns,_,rfl,sG.seq hS1,by omega,by omega,fun r hr => ?_⟩
      walk_at "go"
      refine ⟨r,ln,U,rfl,hr,sG _ _ hU,hU8,hUp,fun v G2 rr s2 rq ok => ?_⟩
      have tk:=TK.lst (o:=.lst (ys ++ [v])) (s2 _ _ hG)
      refine c_next hi hyl (s2 _ _ hG) ⟨(kp.trans s2.kp).trans Kp.upd,rs ++ [rr],Pd.snoc (Pd.imp pr fun v b f => (PRowQ.tk f s2.tk).tk tk) (rq.tk tk),fun x hx => ?_⟩
      rcases List.mem_append.mp hx with h | h
      . exact hok x h
      . rw [List.mem_singleton.mp h]
        exact okP.q ok
    rintro lr ys G h0 hG hyl ⟨kp,rs,pr,hok⟩
    have sG:Same H1 G:=fun b o h => kp _ _ (ne_of_none h h0) h
    walk_at "go"
    refine l_lst hG fun lh hlh => ?_
    have t1:=Same.new (o:=.lst ys) hlh
    have hh:=upd_same (H:=G) (a:=lh) (o:=.lst ys)
    generalize L2.upd G lh (.lst ys) = G1 at t1 hh ⊢
    have pr1:=Pd.imp pr fun v b f => PRowQ.tk f t1.tk
    have rows:RowsQ G1 lr rs:=⟨ys,t1 _ _ hG,pr1⟩
    have handed:RowsQ G1 lh rs:=⟨ys,hh,pr1⟩
    have sG1:=sG.trans t1
    walk_at "go"
    refine ⟨lr,rs,rfl,rows,hok,fun vd G2 s2 dv => ?_⟩
    walk_at "go"
    refine ⟨lh,rs,rfl,handed.sm s2,hok,fun v1 G3 s3 d1 => ?_⟩
    walk_at "go"
    refine n_dv d1 (dv.sm s3) ?_
    walk_at "go"
    refine n_like (R:=PRowQ) (f:=dRow) (ds:=rs) (fun v b h => h.den) dep_row (handed.sm (s2.trans s3)) (rows.sm (s2.trans s3)) ?_
    have sG3:=sG1.trans (s2.trans s3)
    have dvv:=dv.sm s3
    walk_at "go"
    rcases id dvv with ⟨hc,rfl⟩ | ⟨hc,hb,rfl⟩ | ⟨hc,hb,ld,rfl,hld,lqd⟩
    . refine r_isTy (.str _) kit_str_list ?_
      walk_at "go"
      refine r_lstK fun l4 hl4 => ?_
      have sq:=Same.new (o:=.lst [V.int 119,.int 120,.int 121,.int 122]) hl4
      have g4:=upd_same (H:=G3) (a:=l4) (o:=.lst [V.int 119,.int 120,.int 121,.int 122])
      generalize L2.upd G3 l4 (.lst [V.int 119,.int 120,.int 121,.int 122]) = HH at sq g4 ⊢
      replace sq:=sG3.trans sq
      clear dvv
      walk_at "go"
      refine r_listK (SqL.of g4) ?_
      refine r_forL (xs:=[V.int 119,.int 120,.int 121,.int 122]) (fun i σ G' => ∃ o5 o6 o7,σ = [some (.ref a),some (.ref ln),some (.ref lr),some (.ref lh),some (.str "many"),o5,o6] /\ Same HH G' /\ o7 = (none:Option V)) ⟨_,_,_,rfl,Same.refl _,rfl⟩ ?_ ?_ ?_
      . rintro i σ G' _ ⟨o5,o6,o7,rfl,sG',_⟩
        exact SqL.of (sG' _ _ g4)
      . rintro i x σ G' hx ⟨o5,o6,o7,rfl,sG',_⟩
        obtain ⟨mm,rfl,hm1,hm2⟩:∃ mm:Int,x = .int mm /\ 119 <= mm /\ mm <= 122:=by
          have:=List.mem_of_getElem? hx
          simp only [List.mem_cons,List.not_mem_nil,or_false] at this
          rcases this with rfl | rfl | rfl | rfl
          . exact ⟨119,rfl,by decide,by decide⟩
          . exact ⟨120,rfl,by decide,by decide⟩
          . exact ⟨121,rfl,by decide,by decide⟩
          . exact ⟨122,rfl,by decide,by decide⟩
        have sH:=sq.trans sG'
        walk_at "go"
        refine ⟨a,ns,52,rfl,sH.seq hS1,by decide,by decide,fun r hr => ?_⟩
        walk_at "go"
        refine ⟨mm,r,ln,U,rfl,by omega,by omega,hr,sH _ _ hU,hU8,hUp,fun l2 G2 rs2 s2 rows2 ok2 => ?_⟩
        walk_at "go"
        refine ⟨l2,rs2,rfl,rows2,ok2,fun v1 G3 s3 d1 => ?_⟩
        walk_at "go"
        refine ⟨l2,rs2,rfl,rows2.sm s3,ok2,fun v2 G4 s4 d2 => ?_⟩
        walk_at "go"
        refine n_dv (d1.sm s4) d2 ?_
        walk_at "go"
        exact ⟨_,_,_,rfl,sG'.trans (s2.trans (s3.trans s4)),rfl⟩
      rintro σ G' ⟨o5,o6,o7,rfl,sG',_⟩
      walk_at "go"
      refine r_lstK fun le hle => ?_
      walk_at "go"
      refine ⟨le,[],rfl,⟨[],upd_same,.nil⟩,fun _ h => (nomatch h),fun v5 G5 s5 d5 => ?_⟩
      obtain rfl:v5 = .str "none":=by
        rcases d5 with ⟨h,_⟩ | ⟨_,_,e⟩ | ⟨_,h,_⟩
        . exact absurd h (by decide)
        . exact e
        . exact absurd (.inl rfl) h
      walk_at "go"
      exact q _
    . refine r_isTy (.str _) kit_str_list ?_
      walk_at "go"
      refine r_lstK fun l4 hl4 => ?_
      have sq:=Same.new (o:=.lst [V.int 119,.int 120,.int 121,.int 122]) hl4
      have g4:=upd_same (H:=G3) (a:=l4) (o:=.lst [V.int 119,.int 120,.int 121,.int 122])
      generalize L2.upd G3 l4 (.lst [V.int 119,.int 120,.int 121,.int 122]) = HH at sq g4 ⊢
      replace sq:=sG3.trans sq
      clear dvv
      walk_at "go"
      refine r_listK (SqL.of g4) ?_
      refine r_forL (xs:=[V.int 119,.int 120,.int 121,.int 122]) (fun i σ G' => ∃ o5 o6 o7,σ = [some (.ref a),some (.ref ln),some (.ref lr),some (.ref lh),some (.str "none"),o5,o6] /\ Same HH G' /\ o7 = (none:Option V)) ⟨_,_,_,rfl,Same.refl _,rfl⟩ ?_ ?_ ?_
      . rintro i σ G' _ ⟨o5,o6,o7,rfl,sG',_⟩
        exact SqL.of (sG' _ _ g4)
      . rintro i x σ G' hx ⟨o5,o6,o7,rfl,sG',_⟩
        obtain ⟨mm,rfl,hm1,hm2⟩:∃ mm:Int,x = .int mm /\ 119 <= mm /\ mm <= 122:=by
          have:=List.mem_of_getElem? hx
          simp only [List.mem_cons,List.not_mem_nil,or_false] at this
          rcases this with rfl | rfl | rfl | rfl
          . exact ⟨119,rfl,by decide,by decide⟩
          . exact ⟨120,rfl,by decide,by decide⟩
          . exact ⟨121,rfl,by decide,by decide⟩
          . exact ⟨122,rfl,by decide,by decide⟩
        have sH:=sq.trans sG'
        walk_at "go"
        refine ⟨a,ns,52,rfl,sH.seq hS1,by decide,by decide,fun r hr => ?_⟩
        walk_at "go"
        refine ⟨mm,r,ln,U,rfl,by omega,by omega,hr,sH _ _ hU,hU8,hUp,fun l2 G2 rs2 s2 rows2 ok2 => ?_⟩
        walk_at "go"
        refine ⟨l2,rs2,rfl,rows2,ok2,fun v1 G3 s3 d1 => ?_⟩
        walk_at "go"
        refine ⟨l2,rs2,rfl,rows2.sm s3,ok2,fun v2 G4 s4 d2 => ?_⟩
        walk_at "go"
        refine n_dv (d1.sm s4) d2 ?_
        walk_at "go"
        exact ⟨_,_,_,rfl,sG'.trans (s2.trans (s3.trans s4)),rfl⟩
      rintro σ G' ⟨o5,o6,o7,rfl,sG',_⟩
      walk_at "go"
      refine r_lstK fun le hle => ?_
      walk_at "go"
      refine ⟨le,[],rfl,⟨[],upd_same,.nil⟩,fun _ h => (nomatch h),fun v5 G5 s5 d5 => ?_⟩
      obtain rfl:v5 = .str "none":=by
        rcases d5 with ⟨h,_⟩ | ⟨_,_,e⟩ | ⟨_,h,_⟩
        . exact absurd h (by decide)
        . exact e
        . exact absurd (.inl rfl) h
      walk_at "go"
      exact q _
    obtain ⟨vsd,hvd,pvd⟩:=id lqd
    refine r_isTy (.lst hvd) kit_list_list ?_
    walk_at "go"
    refine ⟨lh,rs,rfl,handed.sm (s2.trans s3),hok,fun h => absurd h (by omega),fun _ h => absurd h hb,fun _ _ l5 G5 hl5 s5 lq5 => ?_⟩
    obtain ⟨v5,hv5,pv5⟩:=lq5
    have hvl:v5.length <= 120:=by
      rw [(Paired.length pv5).trans (show (kn (allR rs)).length = (allR rs).length by simp [kn]),← cnt_all]
      exact hc
    walk_at "go"
    refine r_app hv5 (by omega) ?_
    have s6:Same G3 (L2.upd G5 l5 (.lst (v5 ++ [.non]))):=Kp.upd.sm s5 hl5
    generalize L2.upd G5 l5 (.lst (v5 ++ [.non])) = G6 at s6 ⊢
    walk_at "go"
    refine ⟨lh,rs,rfl,handed.sm ((s2.trans s3).trans s6),hok,fun v7 G7 s7 d7 => ?_⟩
    walk_at "go"
    refine n_dv d7 (dvv.sm (s6.trans s7)) ?_
    have sG7:=sG3.trans (s6.trans s7)
    walk_at "go"
    refine r_lstK fun l4 hl4 => ?_
    have sq:=Same.new (o:=.lst [V.int 119,.int 120,.int 121,.int 122]) hl4
    have g4:=upd_same (H:=G7) (a:=l4) (o:=.lst [V.int 119,.int 120,.int 121,.int 122])
    generalize L2.upd G7 l4 (.lst [V.int 119,.int 120,.int 121,.int 122]) = HH at sq g4 ⊢
    replace sq:=sG7.trans sq
    clear dvv
    walk_at "go"
    refine r_listK (SqL.of g4) ?_
    refine r_forL (xs:=[V.int 119,.int 120,.int 121,.int 122]) (fun i σ G' => ∃ o5 o6 o7,σ = [some (.ref a),some (.ref ln),some (.ref lr),some (.ref lh),some (.ref ld),o5,o6] /\ Same HH G' /\ o7 = (none:Option V)) ⟨_,_,_,rfl,Same.refl _,rfl⟩ ?_ ?_ ?_
    . rintro i σ G' _ ⟨o5,o6,o7,rfl,sG',_⟩
      exact SqL.of (sG' _ _ g4)
    . rintro i x σ G' hx ⟨o5,o6,o7,rfl,sG',_⟩
      obtain ⟨mm,rfl,hm1,hm2⟩:∃ mm:Int,x = .int mm /\ 119 <= mm /\ mm <= 122:=by
        have:=List.mem_of_getElem? hx
        simp only [List.mem_cons,List.not_mem_nil,or_false] at this
        rcases this with rfl | rfl | rfl | rfl
        . exact ⟨119,rfl,by decide,by decide⟩
        . exact ⟨120,rfl,by decide,by decide⟩
        . exact ⟨121,rfl,by decide,by decide⟩
        . exact ⟨122,rfl,by decide,by decide⟩
      have sH:=sq.trans sG'
      walk_at "go"
      refine ⟨a,ns,52,rfl,sH.seq hS1,by decide,by decide,fun r hr => ?_⟩
      walk_at "go"
      refine ⟨mm,r,ln,U,rfl,by omega,by omega,hr,sH _ _ hU,hU8,hUp,fun l2 G2 rs2 s2 rows2 ok2 => ?_⟩
      walk_at "go"
      refine ⟨l2,rs2,rfl,rows2,ok2,fun v1 G3 s3 d1 => ?_⟩
      walk_at "go"
      refine ⟨l2,rs2,rfl,rows2.sm s3,ok2,fun v2 G4 s4 d2 => ?_⟩
      walk_at "go"
      refine n_dv (d1.sm s4) d2 ?_
      walk_at "go"
      exact ⟨_,_,_,rfl,sG'.trans (s2.trans (s3.trans s4)),rfl⟩
    rintro σ G' ⟨o5,o6,o7,rfl,sG',_⟩
    walk_at "go"
    refine r_lstK fun le hle => ?_
    walk_at "go"
    refine ⟨le,[],rfl,⟨[],upd_same,.nil⟩,fun _ h => (nomatch h),fun v5 G5 s5 d5 => ?_⟩
    obtain rfl:v5 = .str "none":=by
      rcases d5 with ⟨h,_⟩ | ⟨_,_,e⟩ | ⟨_,h,_⟩
      . exact absurd h (by decide)
      . exact e
      . exact absurd (.inl rfl) h
    walk_at "go"
    exact q _
end
set_option maxHeartbeats 0 in
theorem all_mk {l:PySem.W.OpenLaw} {w:World} {K:PySem.W.Frag} {h:Heap} {mg:Str -> Option Value} {fa:Addr} (X:K.In h) (G:h.Ns mainGlobals mg) (hfa:mg "law" = some (.ref fa)) {f0:Addr} {oc0:Value} {od0 an0:Option Addr} {sl0:Array (Option Value)} {kV0 dc0 pm0 cd0 ct0:Value} {f1:Addr} {oc1:Value} {od1 an1:Option Addr} {sl1:Array (Option Value)} {kV1 dc1 pm1 cd1 ct1:Value} {f2:Addr} {oc2:Value} {od2 an2:Option Addr} {sl2:Array (Option Value)} {kV2 dc2 pm2 cd2 ct2:Value} {f3:Addr} {oc3:Value} {od3 an3:Option Addr} {sl3:Array (Option Value)} {kV3 dc3 pm3 cd3 ct3:Value} {f4:Addr} {oc4:Value} {od4 an4:Option Addr} {sl4:Array (Option Value)} {kV4 dc4 pm4 cd4 ct4:Value} {f5:Addr} {oc5:Value} {od5 an5:Option Addr} {sl5:Array (Option Value)} {kV5 dc5 pm5 cd5 ct5:Value} {f6:Addr} {oc6:Value} {od6 an6:Option Addr} {sl6:Array (Option Value)} {kV6 dc6 pm6 cd6 ct6:Value} {f7:Addr} {oc7:Value} {od7 an7:Option Addr} {sl7:Array (Option Value)} {kV7 dc7 pm7 cd7 ct7:Value} {f8:Addr} {oc8:Value} {od8 an8:Option Addr} {sl8:Array (Option Value)} {kV8 dc8 pm8 cd8 ct8:Value} {f9:Addr} {oc9:Value} {od9 an9:Option Addr} {sl9:Array (Option Value)} {kV9 dc9 pm9 cd9 ct9:Value} {f10:Addr} {oc10:Value} {od10 an10:Option Addr} {sl10:Array (Option Value)} {kV10 dc10 pm10 cd10 ct10:Value} {f11:Addr} {oc11:Value} {od11 an11:Option Addr} {sl11:Array (Option Value)} {kV11 dc11 pm11 cd11 ct11:Value} {f12:Addr} {oc12:Value} {od12 an12:Option Addr} {sl12:Array (Option Value)} {kV12 dc12 pm12 cd12 ct12:Value} {f13:Addr} {oc13:Value} {od13 an13:Option Addr} {sl13:Array (Option Value)} {kV13 dc13 pm13 cd13 ct13:Value} {f14:Addr} {oc14:Value} {od14 an14:Option Addr} {sl14:Array (Option Value)} {kV14 dc14 pm14 cd14 ct14:Value} {f15:Addr} {oc15:Value} {od15 an15:Option Addr} {sl15:Array (Option Value)} {kV15 dc15 pm15 cd15 ct15:Value} {f16:Addr} {oc16:Value} {od16 an16:Option Addr} {sl16:Array (Option Value)} {kV16 dc16 pm16 cd16 ct16:Value} {f17:Addr} {oc17:Value} {od17 an17:Option Addr} {sl17:Array (Option Value)} {kV17 dc17 pm17 cd17 ct17:Value} {f18:Addr} {oc18:Value} {od18 an18:Option Addr} {sl18:Array (Option Value)} {kV18 dc18 pm18 cd18 ct18:Value} {f19:Addr} {oc19:Value} {od19 an19:Option Addr} {sl19:Array (Option Value)} {kV19 dc19 pm19 cd19 ct19:Value} {f20:Addr} {oc20:Value} {od20 an20:Option Addr} {sl20:Array (Option Value)} {kV20 dc20 pm20 cd20 ct20:Value} {f21:Addr} {oc21:Value} {od21 an21:Option Addr} {sl21:Array (Option Value)} {kV21 dc21 pm21 cd21 ct21:Value} {f22:Addr} {oc22:Value} {od22 an22:Option Addr} {sl22:Array (Option Value)} {kV22 dc22 pm22 cd22 ct22:Value} {f23:Addr} {oc23:Value} {od23 an23:Option Addr} {sl23:Array (Option Value)} {kV23 dc23 pm23 cd23 ct23:Value} {f24:Addr} {oc24:Value} {od24 an24:Option Addr} {sl24:Array (Option Value)} {kV24 dc24 pm24 cd24 ct24:Value} {f25:Addr} {oc25:Value} {od25 an25:Option Addr} {sl25:Array (Option Value)} {kV25 dc25 pm25 cd25 ct25:Value} {f26:Addr} {oc26:Value} {od26 an26:Option Addr} {sl26:Array (Option Value)} {kV26 dc26 pm26 cd26 ct26:Value} {xt x1 x4:Addr} {cd_NoNet:ClassData} {cd_TooMany:ClassData} {tk_LETTERS:Tok} {tk_MOST_LETTERS:Tok} {tk_MOST_PARTS:Tok} {tk_MOST_RUNS:Tok}
    (a0:PySem.W.nsIn K mainGlobals "is_whole" = some (some (.ref f0))) (l0:K.lookup f0 = some ⟨oc0,od0,.func (PySem.W.fnOf "is_whole" "is_whole" (defArgs s_is_whole) (defBody s_is_whole) (defScope s_is_whole) .none kV0 dc0 pm0 an0 cd0 ct0),sl0⟩) (c0:PySem.W.codeIn K cd0 "is_whole" = true) (k0:PySem.W.keepIn K (.ref f0) = true)
    (a1:PySem.W.nsIn K mainGlobals "common_divisor" = some (some (.ref f1))) (l1:K.lookup f1 = some ⟨oc1,od1,.func (PySem.W.fnOf "common_divisor" "common_divisor" (defArgs s_common_divisor) (defBody s_common_divisor) (defScope s_common_divisor) .none kV1 dc1 pm1 an1 cd1 ct1),sl1⟩) (c1:PySem.W.codeIn K cd1 "common_divisor" = true) (k1:PySem.W.keepIn K (.ref f1) = true)
    (a2:PySem.W.nsIn K mainGlobals "is_fraction" = some (some (.ref f2))) (l2:K.lookup f2 = some ⟨oc2,od2,.func (PySem.W.fnOf "is_fraction" "is_fraction" (defArgs s_is_fraction) (defBody s_is_fraction) (defScope s_is_fraction) .none kV2 dc2 pm2 an2 cd2 ct2),sl2⟩) (c2:PySem.W.codeIn K cd2 "is_fraction" = true) (k2:PySem.W.keepIn K (.ref f2) = true)
    (a3:PySem.W.nsIn K mainGlobals "is_less" = some (some (.ref f3))) (l3:K.lookup f3 = some ⟨oc3,od3,.func (PySem.W.fnOf "is_less" "is_less" (defArgs s_is_less) (defBody s_is_less) (defScope s_is_less) .none kV3 dc3 pm3 an3 cd3 ct3),sl3⟩) (c3:PySem.W.codeIn K cd3 "is_less" = true) (k3:PySem.W.keepIn K (.ref f3) = true)
    (a4:PySem.W.nsIn K mainGlobals "is_part" = some (some (.ref f4))) (l4:K.lookup f4 = some ⟨oc4,od4,.func (PySem.W.fnOf "is_part" "is_part" (defArgs s_is_part) (defBody s_is_part) (defScope s_is_part) .none kV4 dc4 pm4 an4 cd4 ct4),sl4⟩) (c4:PySem.W.codeIn K cd4 "is_part" = true) (k4:PySem.W.keepIn K (.ref f4) = true)
    (a5:PySem.W.nsIn K mainGlobals "is_post" = some (some (.ref f5))) (l5:K.lookup f5 = some ⟨oc5,od5,.func (PySem.W.fnOf "is_post" "is_post" (defArgs s_is_post) (defBody s_is_post) (defScope s_is_post) .none kV5 dc5 pm5 an5 cd5 ct5),sl5⟩) (c5:PySem.W.codeIn K cd5 "is_post" = true) (k5:PySem.W.keepIn K (.ref f5) = true)
    (a6:PySem.W.nsIn K mainGlobals "is_run" = some (some (.ref f6))) (l6:K.lookup f6 = some ⟨oc6,od6,.func (PySem.W.fnOf "is_run" "is_run" (defArgs s_is_run) (defBody s_is_run) (defScope s_is_run) .none kV6 dc6 pm6 an6 cd6 ct6),sl6⟩) (c6:PySem.W.codeIn K cd6 "is_run" = true) (k6:PySem.W.keepIn K (.ref f6) = true)
    (a7:PySem.W.nsIn K mainGlobals "net_of" = some (some (.ref f7))) (l7:K.lookup f7 = some ⟨oc7,od7,.func (PySem.W.fnOf "net_of" "net_of" (defArgs s_net_of) (defBody s_net_of) (defScope s_net_of) .none kV7 dc7 pm7 an7 cd7 ct7),sl7⟩) (c7:PySem.W.codeIn K cd7 "net_of" = true) (k7:PySem.W.keepIn K (.ref f7) = true)
    (a8:PySem.W.nsIn K mainGlobals "count_in" = some (some (.ref f8))) (l8:K.lookup f8 = some ⟨oc8,od8,.func (PySem.W.fnOf "count_in" "count_in" (defArgs s_count_in) (defBody s_count_in) (defScope s_count_in) .none kV8 dc8 pm8 an8 cd8 ct8),sl8⟩) (c8:PySem.W.codeIn K cd8 "count_in" = true) (k8:PySem.W.keepIn K (.ref f8) = true)
    (a9:PySem.W.nsIn K mainGlobals "counted" = some (some (.ref f9))) (l9:K.lookup f9 = some ⟨oc9,od9,.func (PySem.W.fnOf "counted" "counted" (defArgs s_counted) (defBody s_counted) (defScope s_counted) .none kV9 dc9 pm9 an9 cd9 ct9),sl9⟩) (c9:PySem.W.codeIn K cd9 "counted" = true) (k9:PySem.W.keepIn K (.ref f9) = true)
    (a10:PySem.W.nsIn K mainGlobals "runs_along" = some (some (.ref f10))) (l10:K.lookup f10 = some ⟨oc10,od10,.func (PySem.W.fnOf "runs_along" "runs_along" (defArgs s_runs_along) (defBody s_runs_along) (defScope s_runs_along) .none kV10 dc10 pm10 an10 cd10 ct10),sl10⟩) (c10:PySem.W.codeIn K cd10 "runs_along" = true) (k10:PySem.W.keepIn K (.ref f10) = true)
    (a11:PySem.W.nsIn K mainGlobals "runs_of" = some (some (.ref f11))) (l11:K.lookup f11 = some ⟨oc11,od11,.func (PySem.W.fnOf "runs_of" "runs_of" (defArgs s_runs_of) (defBody s_runs_of) (defScope s_runs_of) .none kV11 dc11 pm11 an11 cd11 ct11),sl11⟩) (c11:PySem.W.codeIn K cd11 "runs_of" = true) (k11:PySem.W.keepIn K (.ref f11) = true)
    (a12:PySem.W.nsIn K mainGlobals "opened" = some (some (.ref f12))) (l12:K.lookup f12 = some ⟨oc12,od12,.func (PySem.W.fnOf "opened" "opened" (defArgs s_opened) (defBody s_opened) (defScope s_opened) .none kV12 dc12 pm12 an12 cd12 ct12),sl12⟩) (c12:PySem.W.codeIn K cd12 "opened" = true) (k12:PySem.W.keepIn K (.ref f12) = true)
    (a13:PySem.W.nsIn K mainGlobals "_law_cell_at" = some (some (.ref f13))) (l13:K.lookup f13 = some ⟨oc13,od13,.func (PySem.W.fnOf "_law_cell_at" "_law_cell_at" (defArgs s_cell_at) (defBody s_cell_at) (defScope s_cell_at) .none kV13 dc13 pm13 an13 cd13 ct13),sl13⟩) (c13:PySem.W.codeIn K cd13 "_law_cell_at" = true) (k13:PySem.W.keepIn K (.ref f13) = true)
    (a14:PySem.W.nsIn K mainGlobals "_law_number" = some (some (.ref f14))) (l14:K.lookup f14 = some ⟨oc14,od14,.func (PySem.W.fnOf "_law_number" "_law_number" (defArgs s_number) (defBody s_number) (defScope s_number) .none kV14 dc14 pm14 an14 cd14 ct14),sl14⟩) (c14:PySem.W.codeIn K cd14 "_law_number" = true) (k14:PySem.W.keepIn K (.ref f14) = true)
    (a15:PySem.W.nsIn K mainGlobals "_law_lowest" = some (some (.ref f15))) (l15:K.lookup f15 = some ⟨oc15,od15,.func (PySem.W.fnOf "_law_lowest" "_law_lowest" (defArgs s_lowest) (defBody s_lowest) (defScope s_lowest) .none kV15 dc15 pm15 an15 cd15 ct15),sl15⟩) (c15:PySem.W.codeIn K cd15 "_law_lowest" = true) (k15:PySem.W.keepIn K (.ref f15) = true)
    (a16:PySem.W.nsIn K mainGlobals "_law_names" = some (some (.ref f16))) (l16:K.lookup f16 = some ⟨oc16,od16,.func (PySem.W.fnOf "_law_names" "_law_names" (defArgs s_names) (defBody s_names) (defScope s_names) .none kV16 dc16 pm16 an16 cd16 ct16),sl16⟩) (c16:PySem.W.codeIn K cd16 "_law_names" = true) (k16:PySem.W.keepIn K (.ref f16) = true)
    (a17:PySem.W.nsIn K mainGlobals "_law_post" = some (some (.ref f17))) (l17:K.lookup f17 = some ⟨oc17,od17,.func (PySem.W.fnOf "_law_post" "_law_post" (defArgs s_post) (defBody s_post) (defScope s_post) .none kV17 dc17 pm17 an17 cd17 ct17),sl17⟩) (c17:PySem.W.codeIn K cd17 "_law_post" = true) (k17:PySem.W.keepIn K (.ref f17) = true)
    (a18:PySem.W.nsIn K mainGlobals "_law_time" = some (some (.ref f18))) (l18:K.lookup f18 = some ⟨oc18,od18,.func (PySem.W.fnOf "_law_time" "_law_time" (defArgs s_time) (defBody s_time) (defScope s_time) .none kV18 dc18 pm18 an18 cd18 ct18),sl18⟩) (c18:PySem.W.codeIn K cd18 "_law_time" = true) (k18:PySem.W.keepIn K (.ref f18) = true)
    (a19:PySem.W.nsIn K mainGlobals "_law_posts" = some (some (.ref f19))) (l19:K.lookup f19 = some ⟨oc19,od19,.func (PySem.W.fnOf "_law_posts" "_law_posts" (defArgs s_posts) (defBody s_posts) (defScope s_posts) .none kV19 dc19 pm19 an19 cd19 ct19),sl19⟩) (c19:PySem.W.codeIn K cd19 "_law_posts" = true) (k19:PySem.W.keepIn K (.ref f19) = true)
    (a20:PySem.W.nsIn K mainGlobals "_law_plain" = some (some (.ref f20))) (l20:K.lookup f20 = some ⟨oc20,od20,.func (PySem.W.fnOf "_law_plain" "_law_plain" (defArgs s_plain) (defBody s_plain) (defScope s_plain) .none kV20 dc20 pm20 an20 cd20 ct20),sl20⟩) (c20:PySem.W.codeIn K cd20 "_law_plain" = true) (k20:PySem.W.keepIn K (.ref f20) = true)
    (a21:PySem.W.nsIn K mainGlobals "_law_row_runs" = some (some (.ref f21))) (l21:K.lookup f21 = some ⟨oc21,od21,.func (PySem.W.fnOf "_law_row_runs" "_law_row_runs" (defArgs s_row_runs) (defBody s_row_runs) (defScope s_row_runs) .none kV21 dc21 pm21 an21 cd21 ct21),sl21⟩) (c21:PySem.W.codeIn K cd21 "_law_row_runs" = true) (k21:PySem.W.keepIn K (.ref f21) = true)
    (a22:PySem.W.nsIn K mainGlobals "_law_runs" = some (some (.ref f22))) (l22:K.lookup f22 = some ⟨oc22,od22,.func (PySem.W.fnOf "_law_runs" "_law_runs" (defArgs s_runs) (defBody s_runs) (defScope s_runs) .none kV22 dc22 pm22 an22 cd22 ct22),sl22⟩) (c22:PySem.W.codeIn K cd22 "_law_runs" = true) (k22:PySem.W.keepIn K (.ref f22) = true)
    (a23:PySem.W.nsIn K mainGlobals "_law_due" = some (some (.ref f23))) (l23:K.lookup f23 = some ⟨oc23,od23,.func (PySem.W.fnOf "_law_due" "_law_due" (defArgs s_due) (defBody s_due) (defScope s_due) .none kV23 dc23 pm23 an23 cd23 ct23),sl23⟩) (c23:PySem.W.codeIn K cd23 "_law_due" = true) (k23:PySem.W.keepIn K (.ref f23) = true)
    (a24:PySem.W.nsIn K mainGlobals "_law_told" = some (some (.ref f24))) (l24:K.lookup f24 = some ⟨oc24,od24,.func (PySem.W.fnOf "_law_told" "_law_told" (defArgs s_told) (defBody s_told) (defScope s_told) .none kV24 dc24 pm24 an24 cd24 ct24),sl24⟩) (c24:PySem.W.codeIn K cd24 "_law_told" = true) (k24:PySem.W.keepIn K (.ref f24) = true)
    (a25:PySem.W.nsIn K mainGlobals "_law_full" = some (some (.ref f25))) (l25:K.lookup f25 = some ⟨oc25,od25,.func (PySem.W.fnOf "_law_full" "_law_full" (defArgs s_full) (defBody s_full) (defScope s_full) .none kV25 dc25 pm25 an25 cd25 ct25),sl25⟩) (c25:PySem.W.codeIn K cd25 "_law_full" = true) (k25:PySem.W.keepIn K (.ref f25) = true)
    (a26:PySem.W.nsIn K mainGlobals "law" = some (some (.ref f26))) (l26:K.lookup f26 = some ⟨oc26,od26,.func (PySem.W.fnOf "law" "law" (defArgs s_law) (defBody s_law) (defScope s_law) .none kV26 dc26 pm26 an26 cd26 ct26),sl26⟩) (c26:PySem.W.codeIn K cd26 "law" = true) (k26:PySem.W.keepIn K (.ref f26) = true)
    (bT:PySem.W.nsIn K mainGlobals "TileError" = some (some (.ref xt))) (b1:PySem.W.nsIn K mainGlobals "NoNet" = some (some (.ref x1))) (b4:PySem.W.nsIn K mainGlobals "TooMany" = some (some (.ref x4))) (zV:PySem.W.nsIn K mainGlobals "ValueError" = some none)
    (ga_NoNet:PySem.W.findIn K (.ref x1) "__getattribute__" = some (some (.builtin "BaseException.__getattribute__"))) (gt_NoNet:PySem.W.findIn K (.ref x1) "__getattr__" = some none) (ca_NoNet:PySem.W.findIn K (.ref x1) "__class__" = some (some (.builtin "object.__class__"))) (ob_NoNet:PySem.W.subIn K (.ref x1) (.type "object") = some true) (be_NoNet:PySem.W.subIn K (.ref x1) (.type "BaseException") = some true) (ic_NoNet:PySem.W.clsIn K x1 = some cd_NoNet) (ex_NoNet:PySem.W.excIn K x1 bmVE "ValueError.__new__" = true) (ve_NoNet:PySem.W.kitOne K (.ref x1) (.type "ValueError") = some true) (tt_NoNet:PySem.W.exmOne K (.ref x1) (.ref xt) = some true)
    (k1_NoNet:PySem.W.kitOne K (.ref x1) (.ref x1) = some (Nat.beq 1 1)) (k4_NoNet:PySem.W.kitOne K (.ref x1) (.ref x4) = some (Nat.beq 4 1))
    (ga_TooMany:PySem.W.findIn K (.ref x4) "__getattribute__" = some (some (.builtin "BaseException.__getattribute__"))) (gt_TooMany:PySem.W.findIn K (.ref x4) "__getattr__" = some none) (ca_TooMany:PySem.W.findIn K (.ref x4) "__class__" = some (some (.builtin "object.__class__"))) (ob_TooMany:PySem.W.subIn K (.ref x4) (.type "object") = some true) (be_TooMany:PySem.W.subIn K (.ref x4) (.type "BaseException") = some true) (ic_TooMany:PySem.W.clsIn K x4 = some cd_TooMany) (ex_TooMany:PySem.W.excIn K x4 bmVE "ValueError.__new__" = true) (ve_TooMany:PySem.W.kitOne K (.ref x4) (.type "ValueError") = some true) (tt_TooMany:PySem.W.exmOne K (.ref x4) (.ref xt) = some true)
    (k1_TooMany:PySem.W.kitOne K (.ref x4) (.ref x1) = some (Nat.beq 1 4)) (k4_TooMany:PySem.W.kitOne K (.ref x4) (.ref x4) = some (Nat.beq 4 4))
    (gl_LETTERS:PySem.W.nsIn K mainGlobals "LETTERS" = some (some (.str "abcdefghijklmnopqrstuvwxyz" tk_LETTERS)))
    (gl_MOST_LETTERS:PySem.W.nsIn K mainGlobals "MOST_LETTERS" = some (some (.int 8 tk_MOST_LETTERS)))
    (gl_MOST_PARTS:PySem.W.nsIn K mainGlobals "MOST_PARTS" = some (some (.int 4 tk_MOST_PARTS)))
    (gl_MOST_RUNS:PySem.W.nsIn K mainGlobals "MOST_RUNS" = some (some (.int 120 tk_MOST_RUNS)))
    (z_int:PySem.W.nsIn K mainGlobals "int" = some none)
    (z_bool:PySem.W.nsIn K mainGlobals "bool" = some none)
    (z_str:PySem.W.nsIn K mainGlobals "str" = some none)
    (z_list:PySem.W.nsIn K mainGlobals "list" = some none)
    (z_tuple:PySem.W.nsIn K mainGlobals "tuple" = some none)
    (z_dict:PySem.W.nsIn K mainGlobals "dict" = some none)
    (z_set:PySem.W.nsIn K mainGlobals "set" = some none)
    (z_range:PySem.W.nsIn K mainGlobals "range" = some none)
    (z_enumerate:PySem.W.nsIn K mainGlobals "enumerate" = some none)
    (z_zip:PySem.W.nsIn K mainGlobals "zip" = some none)
    (z_reversed:PySem.W.nsIn K mainGlobals "reversed" = some none)
    (z_len:PySem.W.nsIn K mainGlobals "len" = some none)
    (z_abs:PySem.W.nsIn K mainGlobals "abs" = some none)
    (z_max:PySem.W.nsIn K mainGlobals "max" = some none)
    (z_min:PySem.W.nsIn K mainGlobals "min" = some none)
    (z_isinstance:PySem.W.nsIn K mainGlobals "isinstance" = some none)
    (z_sorted:PySem.W.nsIn K mainGlobals "sorted" = some none)
    (z_all:PySem.W.nsIn K mainGlobals "all" = some none)
    (z_any:PySem.W.nsIn K mainGlobals "any" = some none)
    (z_sum:PySem.W.nsIn K mainGlobals "sum" = some none) :
    ∃ fd:FuncData,(∀ (s:Shared) (v:Value),BindsTo s fd ⟨[v],[]⟩ [("_law_script",v)]) /\ ∀ base:Heap,K.In base -> base.Ns mainGlobals mg -> FnOk l.prog w K mg base CX0 7 fa fd ["_law_script"] (spLaw K):=by
  have e:=hfa.symm.trans (PySem.W.mg_of X G a26)
  cases e
  have T:Bl mg:=⟨PySem.W.mg_none_of X G z_int,PySem.W.mg_none_of X G z_bool,PySem.W.mg_none_of X G z_str,PySem.W.mg_none_of X G z_list,PySem.W.mg_none_of X G z_tuple,PySem.W.mg_none_of X G z_dict,PySem.W.mg_none_of X G z_set,PySem.W.mg_none_of X G z_range,PySem.W.mg_none_of X G z_enumerate,PySem.W.mg_none_of X G z_zip,PySem.W.mg_none_of X G z_reversed,PySem.W.mg_none_of X G z_len,PySem.W.mg_none_of X G z_abs,PySem.W.mg_none_of X G z_max,PySem.W.mg_none_of X G z_min,PySem.W.mg_none_of X G z_isinstance,PySem.W.mg_none_of X G z_sorted,PySem.W.mg_none_of X G z_all,PySem.W.mg_none_of X G z_any,PySem.W.mg_none_of X G z_sum⟩
  have W:XmS mg xt x1 x4:=⟨PySem.W.mg_of X G bT,PySem.W.mg_of X G b1,PySem.W.mg_of X G b4,PySem.W.mg_none_of X G zV⟩
  have R_NoNet:XrS K xt x1 x4 x1 1:=⟨⟨ga_NoNet,gt_NoNet,ca_NoNet,ob_NoNet,be_NoNet,by rw [ic_NoNet]; rfl⟩,.ve ex_NoNet,ve_NoNet,tt_NoNet,k1_NoNet,k4_NoNet⟩
  have R_TooMany:XrS K xt x1 x4 x4 4:=⟨⟨ga_TooMany,gt_TooMany,ca_TooMany,ob_TooMany,be_TooMany,by rw [ic_TooMany]; rfl⟩,.ve ex_TooMany,ve_TooMany,tt_TooMany,k1_TooMany,k4_TooMany⟩
  have d_is_whole:Df K mg "is_whole" s_is_whole ["thing"]:=df_mk X G a0 l0 c0 k0 (el_1 fun _ => rfl)
  have d_common_divisor:Df K mg "common_divisor" s_common_divisor ["one","other"]:=df_mk X G a1 l1 c1 k1 (el_2 fun _ _ => rfl)
  have d_is_fraction:Df K mg "is_fraction" s_is_fraction ["thing"]:=df_mk X G a2 l2 c2 k2 (el_1 fun _ => rfl)
  have d_is_less:Df K mg "is_less" s_is_less ["one","other"]:=df_mk X G a3 l3 c3 k3 (el_2 fun _ _ => rfl)
  have d_is_part:Df K mg "is_part" s_is_part ["text"]:=df_mk X G a4 l4 c4 k4 (el_1 fun _ => rfl)
  have d_is_post:Df K mg "is_post" s_is_post ["thing"]:=df_mk X G a5 l5 c5 k5 (el_1 fun _ => rfl)
  have d_is_run:Df K mg "is_run" s_is_run ["thing"]:=df_mk X G a6 l6 c6 k6 (el_1 fun _ => rfl)
  have d_net_of:Df K mg "net_of" s_net_of ["runs"]:=df_mk X G a7 l7 c7 k7 (el_1 fun _ => rfl)
  have d_count_in:Df K mg "count_in" s_count_in ["row","counts"]:=df_mk X G a8 l8 c8 k8 (el_2 fun _ _ => rfl)
  have d_counted:Df K mg "counted" s_counted ["rows"]:=df_mk X G a9 l9 c9 k9 (el_1 fun _ => rfl)
  have d_runs_along:Df K mg "runs_along" s_runs_along ["time","posts"]:=df_mk X G a10 l10 c10 k10 (el_2 fun _ _ => rfl)
  have d_runs_of:Df K mg "runs_of" s_runs_of ["row","pieces"]:=df_mk X G a11 l11 c11 k11 (el_2 fun _ _ => rfl)
  have d_opened:Df K mg "opened" s_opened ["rows"]:=df_mk X G a12 l12 c12 k12 (el_1 fun _ => rfl)
  have d_cell_at:Df K mg "_law_cell_at" s_cell_at ["_law_script","_law_k"]:=df_mk X G a13 l13 c13 k13 (el_2 fun _ _ => rfl)
  have d_number:Df K mg "_law_number" s_number ["_law_script","_law_k"]:=df_mk X G a14 l14 c14 k14 (el_2 fun _ _ => rfl)
  have d_lowest:Df K mg "_law_lowest" s_lowest ["_law_top","_law_bottom"]:=df_mk X G a15 l15 c15 k15 (el_2 fun _ _ => rfl)
  have d_names:Df K mg "_law_names" s_names ["_law_script"]:=df_mk X G a16 l16 c16 k16 (el_1 fun _ => rfl)
  have d_post:Df K mg "_law_post" s_post ["_law_number_here","_law_names_here"]:=df_mk X G a17 l17 c17 k17 (el_2 fun _ _ => rfl)
  have d_time:Df K mg "_law_time" s_time ["_law_number_here"]:=df_mk X G a18 l18 c18 k18 (el_1 fun _ => rfl)
  have d_posts:Df K mg "_law_posts" s_posts ["_law_number_here","_law_names_here","_law_many"]:=df_mk X G a19 l19 c19 k19 (el_3 fun _ _ _ => rfl)
  have d_plain:Df K mg "_law_plain" s_plain ["_law_number_here","_law_names_here"]:=df_mk X G a20 l20 c20 k20 (el_2 fun _ _ => rfl)
  have d_row_runs:Df K mg "_law_row_runs" s_row_runs ["_law_row_here","_law_pieces"]:=df_mk X G a21 l21 c21 k21 (el_2 fun _ _ => rfl)
  have d_runs:Df K mg "_law_runs" s_runs ["_law_rows","_law_pieces"]:=df_mk X G a22 l22 c22 k22 (el_2 fun _ _ => rfl)
  have d_due:Df K mg "_law_due" s_due ["_law_rows"]:=df_mk X G a23 l23 c23 k23 (el_1 fun _ => rfl)
  have d_told:Df K mg "_law_told" s_told ["_law_rows"]:=df_mk X G a24 l24 c24 k24 (el_1 fun _ => rfl)
  have d_full:Df K mg "_law_full" s_full ["_law_many","_law_names_here","_law_number_here"]:=df_mk X G a25 l25 c25 k25 (el_3 fun _ _ _ => rfl)
  have FL:=fun_mk (st:=s_law) l26 c26 k26
  refine ⟨PySem.W.fnOf "law" "law" (defArgs s_law) (defBody s_law) (defScope s_law) .none kV26 dc26 pm26 an26 cd26 ct26,fun s v => .of_eq rfl,fun base _ _ => ?_⟩
  have o_is_whole:Okf l.prog w K mg base 1 "is_whole" ["thing"]   (spWhole K):=ok_is_whole (k:=0) T d_is_whole W R_NoNet R_TooMany
  have o_common_divisor:Okf l.prog w K mg base 1 "common_divisor" ["one","other"]   spGcd:=ok_common_divisor (k:=0) T d_common_divisor W R_NoNet R_TooMany
  have o_is_fraction:Okf l.prog w K mg base 2 "is_fraction" ["thing"]   (spIsFrac K):=ok_is_fraction (k:=1) T d_is_fraction W R_NoNet R_TooMany (o_common_divisor.mono (by decide)) (o_is_whole.mono (by decide))
  have o_is_less:Okf l.prog w K mg base 1 "is_less" ["one","other"]   spLess:=ok_is_less (k:=0) T d_is_less W R_NoNet R_TooMany
  have o_is_part:Okf l.prog w K mg base 1 "is_part" ["text"]   spPart:=ok_is_part (k:=0) T d_is_part W R_NoNet R_TooMany (PySem.W.mg_of X G gl_LETTERS) (PySem.W.mg_of X G gl_MOST_LETTERS)
  have o_is_post:Okf l.prog w K mg base 2 "is_post" ["thing"]   (spPost K):=ok_is_post (k:=1) T d_is_post W R_NoNet R_TooMany (PySem.W.mg_of X G gl_MOST_PARTS) (o_is_part.mono (by decide))
  have o_is_run:Okf l.prog w K mg base 3 "is_run" ["thing"]   (spIsRun K):=ok_is_run (k:=2) T d_is_run W R_NoNet R_TooMany (o_is_less.mono (by decide)) (o_is_fraction.mono (by decide)) (o_is_post.mono (by decide))
  have o_net_of:=ok_net_of (P:=l.prog) (w:=w) (base:=base) (k:=3) T d_net_of W R_NoNet R_TooMany (PySem.W.mg_of X G gl_MOST_RUNS) (o_is_run.mono (by decide))
  have o_count_in:Okf l.prog w K mg base 1 "count_in" ["row","counts"]   spCountIn:=ok_count_in (k:=0) T d_count_in W R_NoNet R_TooMany
  have o_counted:Okf l.prog w K mg base 2 "counted" ["rows"]   spCounted:=ok_counted (k:=1) T d_counted W R_NoNet R_TooMany (o_count_in.mono (by decide))
  have o_runs_along:Okf l.prog w K mg base 1 "runs_along" ["time","posts"]   (spAlong K):=ok_runs_along (k:=0) T d_runs_along W R_NoNet R_TooMany
  have o_runs_of:Okf l.prog w K mg base 2 "runs_of" ["row","pieces"]   (spRunsOf K):=ok_runs_of (k:=1) T d_runs_of W R_NoNet R_TooMany (o_runs_along.mono (by decide))
  have o_opened:=ok_opened (P:=l.prog) (w:=w) (base:=base) (k:=4) T d_opened W R_NoNet R_TooMany (PySem.W.mg_of X G gl_MOST_RUNS) (o_net_of.mono (by decide)) (o_runs_of.mono (by decide)) (o_counted.mono (by decide))
  have o_cell_at:Okf l.prog w K mg base 1 "_law_cell_at" ["_law_script","_law_k"]   (spCell K):=ok_cell_at (k:=0) T d_cell_at W R_NoNet R_TooMany
  have o_number:Okf l.prog w K mg base 2 "_law_number" ["_law_script","_law_k"]   (spNumW K):=ok_number (k:=1) T d_number W R_NoNet R_TooMany (o_cell_at.mono (by decide))
  have o_lowest:Okf l.prog w K mg base 1 "_law_lowest" ["_law_top","_law_bottom"]   spLowest:=ok_lowest (k:=0) T d_lowest W R_NoNet R_TooMany
  have o_names:Okf l.prog w K mg base 3 "_law_names" ["_law_script"]   (spNames73 K):=ok_names (k:=2) T d_names W R_NoNet R_TooMany (o_number.mono (by decide))
  have o_post:Okf l.prog w K mg base 1 "_law_post" ["_law_number_here","_law_names_here"]   spPost73:=ok_post (k:=0) T d_post W R_NoNet R_TooMany
  have o_time:Okf l.prog w K mg base 2 "_law_time" ["_law_number_here"]   spTime73:=ok_time (k:=1) T d_time W R_NoNet R_TooMany (o_lowest.mono (by decide))
  have o_posts:Okf l.prog w K mg base 2 "_law_posts" ["_law_number_here","_law_names_here","_law_many"]   spPosts73:=ok_posts (k:=1) T d_posts W R_NoNet R_TooMany (o_post.mono (by decide))
  have o_plain:Okf l.prog w K mg base 3 "_law_plain" ["_law_number_here","_law_names_here"]   spPlain73:=ok_plain (k:=2) T d_plain W R_NoNet R_TooMany (o_time.mono (by decide)) (o_posts.mono (by decide))
  have o_row_runs:Okf l.prog w K mg base 1 "_law_row_runs" ["_law_row_here","_law_pieces"]   (spRowRuns K):=ok_row_runs (k:=0) T d_row_runs W R_NoNet R_TooMany
  have o_runs:Okf l.prog w K mg base 2 "_law_runs" ["_law_rows","_law_pieces"]   (spRuns73 K):=ok_runs (k:=1) T d_runs W R_NoNet R_TooMany (o_row_runs.mono (by decide))
  have o_due:Okf l.prog w K mg base 3 "_law_due" ["_law_rows"]   (spDue73 K):=ok_due (k:=2) T d_due W R_NoNet R_TooMany (o_runs.mono (by decide))
  have o_told:Okf l.prog w K mg base 6 "_law_told" ["_law_rows"]   (spTold73 K):=ok_told (k:=5) T d_told W R_NoNet R_TooMany (o_opened.mono (by decide))
  have o_full:Okf l.prog w K mg base 1 "_law_full" ["_law_many","_law_names_here","_law_number_here"]   spFull73:=ok_full (k:=0) T d_full W R_NoNet R_TooMany
  exact ok_law (k:=6) T FL W R_NoNet R_TooMany (o_told.mono (by decide)) (o_due.mono (by decide)) (o_number.mono (by decide)) (o_full.mono (by decide)) (o_opened.mono (by decide)) (o_plain.mono (by decide)) (o_names.mono (by decide))
theorem walk {l:PySem.W.OpenLaw} {q:Program} {loose:List Str} {XP:(Str -> Option Value) -> Heap -> Prop} {YP:World -> Heap -> Prop} {d:DefRec} {K:Params -> PySem.W.Frag} (hn:l.most = some 63) (hdf:d.params.defaults = [])
    (hY:∀ (w:World) (h:Heap),YP w h -> (K w.params).In h)
    (F:∀ (w:World) (mg:Str -> Option Value) (fa:Addr) (h:Heap),(K w.params).In h -> h.Ns mainGlobals mg -> mg d.name = some (.ref fa) ->
      ∃ fd:FuncData,(∀ (s:Shared) (u:Value),BindsTo s fd ⟨[u],[]⟩ [("_law_script",u)]) /\ ∀ base:Heap,(K w.params).In base -> base.Ns mainGlobals mg -> FnOk l.prog w (K w.params) mg base CX0 7 fa fd ["_law_script"] (spLaw (K w.params))) :
    PySem.W.WalkO q loose XP YP l.row.toRowW d [] (fun f vs => PySem.call f vs) :=
  L2.walk_of (n:=63) (k:=7) (x:="_law_script") (CX:=fun _ => CX0) (sp:=fun w => spLaw (K w.params)) hn (by decide) hdf ⟨rfl,by decide,by decide⟩ hY F (fun _ _ a ns hl _ hS => ⟨a,ns,rfl,hS,hl,fun _ => rfl⟩) fun _ _ _ _ _ z => z
open PySem.W in
theorem zwalk {q:Program} {loose:List Str} {XP:(Str -> Option Value) -> Heap -> Prop} {r:RowW} {d:DefRec} {kwd:List (Str×Expr)} {run:Value -> List Value -> Sem Value} {K:Params -> Frag} {as:List Addr} {n t:Nat} (e:∀ P:Params,as = List.map (fun x => x.fst) (K P))
    (W:WalkO q loose XP (kHook K as e).says r d kwd run):WalkX q loose XP (X.obsZ as) (X.valZ K n t) r d kwd run :=
  fun w s₀ s₁ mg mb G y a o pm cd doc dV kV ho hd hcd hD hmg hg args vals as' L hpre hlay hrd hwl hlo =>
    W w s₀ s₁ mg mb G ((kHook K as e).keeps w s₀.heap s₁.heap ((kHook K as e).of w s₀ (congrArg Prod.fst y)) L.keeps) a o pm cd doc dV kV ho hd hcd hD hmg hg args vals as' hpre hlay hrd hwl hlo
end Lw
open PySem PySem.W PyProof.Rows
set_option maxRecDepth 100000 in
set_option maxHeartbeats 0 in
theorem PySem.Challenge.cw_tilefall_k73_rows_opened_holds : PySem.Challenge.rw_tilefall_k73_rows_opened.Holds := by
  w_on; o_law; z_head; (case hw => w_witness2)
  k_fill
  refine Lw.zwalk (fun _ => rfl) ?_
  refine Lw.walk (l := PySem.Challenge.rw_tilefall_k73_rows_opened) rfl rfl (fun w h Y => PySem.W.kIn_of Y) ?F
  case F =>
    intro w mg fa h KX G hmg
    refine' Lw.all_mk KX G hmg ?a0 ?l0 ?c0 ?k0 ?a1 ?l1 ?c1 ?k1 ?a2 ?l2 ?c2 ?k2 ?a3 ?l3 ?c3 ?k3 ?a4 ?l4 ?c4 ?k4 ?a5 ?l5 ?c5 ?k5 ?a6 ?l6 ?c6 ?k6 ?a7 ?l7 ?c7 ?k7 ?a8 ?l8 ?c8 ?k8 ?a9 ?l9 ?c9 ?k9 ?a10 ?l10 ?c10 ?k10 ?a11 ?l11 ?c11 ?k11 ?a12 ?l12 ?c12 ?k12 ?a13 ?l13 ?c13 ?k13 ?a14 ?l14 ?c14 ?k14 ?a15 ?l15 ?c15 ?k15 ?a16 ?l16 ?c16 ?k16 ?a17 ?l17 ?c17 ?k17 ?a18 ?l18 ?c18 ?k18 ?a19 ?l19 ?c19 ?k19 ?a20 ?l20 ?c20 ?k20 ?a21 ?l21 ?c21 ?k21 ?a22 ?l22 ?c22 ?k22 ?a23 ?l23 ?c23 ?k23 ?a24 ?l24 ?c24 ?k24 ?a25 ?l25 ?c25 ?k25 ?a26 ?l26 ?c26 ?k26 ?bT ?b1 ?b4 ?zV ?ga_NoNet ?gt_NoNet ?ca_NoNet ?ob_NoNet ?be_NoNet ?ic_NoNet ?ex_NoNet ?ve_NoNet ?tt_NoNet ?k1_NoNet ?k4_NoNet ?ga_TooMany ?gt_TooMany ?ca_TooMany ?ob_TooMany ?be_TooMany ?ic_TooMany ?ex_TooMany ?ve_TooMany ?tt_TooMany ?k1_TooMany ?k4_TooMany ?gl_LETTERS ?gl_MOST_LETTERS ?gl_MOST_PARTS ?gl_MOST_RUNS ?z_int ?z_bool ?z_str ?z_list ?z_tuple ?z_dict ?z_set ?z_range ?z_enumerate ?z_zip ?z_reversed ?z_len ?z_abs ?z_max ?z_min ?z_isinstance ?z_sorted ?z_all ?z_any ?z_sum
    (case a0 => k_is); (case l0 => k_is); (case c0 => k_is); (case k0 => k_is)
    (case a1 => k_is); (case l1 => k_is); (case c1 => k_is); (case k1 => k_is)
    (case a2 => k_is); (case l2 => k_is); (case c2 => k_is); (case k2 => k_is)
    (case a3 => k_is); (case l3 => k_is); (case c3 => k_is); (case k3 => k_is)
    (case a4 => k_is); (case l4 => k_is); (case c4 => k_is); (case k4 => k_is)
    (case a5 => k_is); (case l5 => k_is); (case c5 => k_is); (case k5 => k_is)
    (case a6 => k_is); (case l6 => k_is); (case c6 => k_is); (case k6 => k_is)
    (case a7 => k_is); (case l7 => k_is); (case c7 => k_is); (case k7 => k_is)
    (case a8 => k_is); (case l8 => k_is); (case c8 => k_is); (case k8 => k_is)
    (case a9 => k_is); (case l9 => k_is); (case c9 => k_is); (case k9 => k_is)
    (case a10 => k_is); (case l10 => k_is); (case c10 => k_is); (case k10 => k_is)
    (case a11 => k_is); (case l11 => k_is); (case c11 => k_is); (case k11 => k_is)
    (case a12 => k_is); (case l12 => k_is); (case c12 => k_is); (case k12 => k_is)
    (case a13 => k_is); (case l13 => k_is); (case c13 => k_is); (case k13 => k_is)
    (case a14 => k_is); (case l14 => k_is); (case c14 => k_is); (case k14 => k_is)
    (case a15 => k_is); (case l15 => k_is); (case c15 => k_is); (case k15 => k_is)
    (case a16 => k_is); (case l16 => k_is); (case c16 => k_is); (case k16 => k_is)
    (case a17 => k_is); (case l17 => k_is); (case c17 => k_is); (case k17 => k_is)
    (case a18 => k_is); (case l18 => k_is); (case c18 => k_is); (case k18 => k_is)
    (case a19 => k_is); (case l19 => k_is); (case c19 => k_is); (case k19 => k_is)
    (case a20 => k_is); (case l20 => k_is); (case c20 => k_is); (case k20 => k_is)
    (case a21 => k_is); (case l21 => k_is); (case c21 => k_is); (case k21 => k_is)
    (case a22 => k_is); (case l22 => k_is); (case c22 => k_is); (case k22 => k_is)
    (case a23 => k_is); (case l23 => k_is); (case c23 => k_is); (case k23 => k_is)
    (case a24 => k_is); (case l24 => k_is); (case c24 => k_is); (case k24 => k_is)
    (case a25 => k_is); (case l25 => k_is); (case c25 => k_is); (case k25 => k_is)
    (case a26 => k_is); (case l26 => k_is); (case c26 => k_is); (case k26 => k_is)
    (case bT => k_is)
    (case b1 => k_is)
    (case b4 => k_is)
    (case zV => k_is)
    (case ga_NoNet => k_is)
    (case gt_NoNet => k_is)
    (case ca_NoNet => k_is)
    (case ob_NoNet => k_is)
    (case be_NoNet => k_is)
    (case ic_NoNet => k_is)
    (case ex_NoNet => k_exc)
    (case ve_NoNet => kit_is)
    (case tt_NoNet => kts_exm)
    (case k1_NoNet => kit_is)
    (case k4_NoNet => kit_is)
    (case ga_TooMany => k_is)
    (case gt_TooMany => k_is)
    (case ca_TooMany => k_is)
    (case ob_TooMany => k_is)
    (case be_TooMany => k_is)
    (case ic_TooMany => k_is)
    (case ex_TooMany => k_exc)
    (case ve_TooMany => kit_is)
    (case tt_TooMany => kts_exm)
    (case k1_TooMany => kit_is)
    (case k4_TooMany => kit_is)
    (case gl_LETTERS => k_is)
    (case gl_MOST_LETTERS => k_is)
    (case gl_MOST_PARTS => k_is)
    (case gl_MOST_RUNS => k_is)
    (case z_int => k_is)
    (case z_bool => k_is)
    (case z_str => k_is)
    (case z_list => k_is)
    (case z_tuple => k_is)
    (case z_dict => k_is)
    (case z_set => k_is)
    (case z_range => k_is)
    (case z_enumerate => k_is)
    (case z_zip => k_is)
    (case z_reversed => k_is)
    (case z_len => k_is)
    (case z_abs => k_is)
    (case z_max => k_is)
    (case z_min => k_is)
    (case z_isinstance => k_is)
    (case z_sorted => k_is)
    (case z_all => k_is)
    (case z_any => k_is)
    (case z_sum => k_is)
#print axioms PySem.Challenge.cw_tilefall_k73_rows_opened_holds
