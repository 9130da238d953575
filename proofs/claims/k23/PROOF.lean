import PyProof.Rows.All
import Wide.All
import OpenK.AllK
import Wide.FinOn
import Lean
import PyProof.EqAt
import PyProof.EqKinds
import PyProof.TupleCall
import PyProof.NeKinds
import KE.KRevSl
import PySem.Challenge.RW_tilefall_k23_whole_amid_and_end
set_option Elab.async false
set_option linter.all false
set_option maxRecDepth 100000
namespace L2
open PySem PySem.Spec PyProof.Rows
noncomputable abbrev Key:=Sum Int Str
noncomputable def keyIs:Key -> Value -> Bool
  | .inl k,v => Value.isInt k v
  | .inr x,v => Value.isStrOf x v
noncomputable def keyH (w:World):Key -> Int
  | .inl k => hashInt k
  | .inr x => hashStr w x
theorem keyIs_shape:∀ {k:Key} {v:Value},keyIs k v = true -> (∃ i t,k = Sum.inl i /\ v = Value.int i t) ∨ (∃ x t,k = Sum.inr x /\ v = Value.str x t)
  | .inl i,v,h => by
    obtain ⟨t,e⟩:=Value.isInt_shape (k:=i) (v:=v) h
    exact .inl ⟨i,t,rfl,e⟩
  | .inr x,v,h => by
    obtain ⟨t,e⟩:=Value.isStrOf_shape (x:=x) (v:=v) h
    exact .inr ⟨x,t,rfl,e⟩
theorem keyIs_int (i:Int) (t:Tok):keyIs (.inl i) (.int i t) = true:=by simp [keyIs,Value.isInt]
theorem keyIs_str (x:Str) (t:Tok):keyIs (.inr x) (.str x t) = true:=by simp [keyIs,Value.isStrOf]
theorem key_ll (a b:Int):decide ((Sum.inl a:Key) = Sum.inl b) = (a == b):=by
  by_cases e:a = b
  . subst e; simp
  . have h:¬ (Sum.inl a:Key) = Sum.inl b:=fun q => e (Sum.inl.inj q)
    rw [decide_eq_false h]
    exact (beq_eq_false_iff_ne.mpr e).symm
theorem key_rr (a b:Str):decide ((Sum.inr a:Key) = Sum.inr b) = decide (a = b):=by
  by_cases e:a = b
  . subst e; simp
  . have h:¬ (Sum.inr a:Key) = Sum.inr b:=fun q => e (Sum.inr.inj q)
    rw [decide_eq_false h,decide_eq_false e]
theorem key_lr (a:Int) (b:Str):decide ((Sum.inl a:Key) = Sum.inr b) = false:=decide_eq_false (fun q => nomatch q)
theorem key_rl (a:Str) (b:Int):decide ((Sum.inr a:Key) = Sum.inl b) = false:=decide_eq_false (fun q => nomatch q)
noncomputable def mixKind (prog:Program) (w:World):PySem.KeyKind prog w Key where
  is:=keyIs
  hash:=keyH w
  inj:=fun v a b ha hb => by
    rcases keyIs_shape ha with ⟨i,t,rfl,rfl⟩ | ⟨x,t,rfl,rfl⟩
    . rcases keyIs_shape hb with ⟨j,u,rfl,e⟩ | ⟨y,u,rfl,e⟩
      . injection e with e1 _; rw [e1]
      . exact nomatch e
    . rcases keyIs_shape hb with ⟨j,u,rfl,e⟩ | ⟨y,u,rfl,e⟩
      . exact nomatch e
      . injection e with e1 _; rw [e1]
  byValue:=fun k v h => by
    rcases keyIs_shape h with ⟨i,t,rfl,rfl⟩ | ⟨x,t,rfl,rfl⟩ <;> rfl
  pyHash:=fun hv h => by
    rcases keyIs_shape hv with ⟨i,t,rfl,rfl⟩ | ⟨x,t,rfl,rfl⟩
    . exact wpAny_pyHash_int h
    . exact wpAny_pyHash_str h
  eqBool:=fun hu hv h => by
    rcases keyIs_shape hu with ⟨i,t,rfl,rfl⟩ | ⟨x,t,rfl,rfl⟩
    . rcases keyIs_shape hv with ⟨j,u,rfl,rfl⟩ | ⟨y,u,rfl,rfl⟩
      . rw [key_ll] at h; exact wpAny_eqBool_int h
      . rw [key_lr] at h; exact SeqAt.EqAt.int_str i t y u _ _ _ _ h
    . rcases keyIs_shape hv with ⟨j,u,rfl,rfl⟩ | ⟨y,u,rfl,rfl⟩
      . rw [key_rl] at h; exact SeqAt.EqAt.str_int x t j u _ _ _ _ h
      . rw [key_rr] at h; exact wpAny_eqBool_str h
  «strs»:=fun k x t v h => by
    rcases keyIs_shape h with ⟨i,u,rfl,e⟩ | ⟨y,u,rfl,e⟩
    . exact nomatch e
    . injection e with e1 _
      subst e1
      cases v <;> rfl
theorem mixKind_int (prog:Program) (w:World) (i:Int) (t:Tok):(mixKind prog w).is (.inl i) (.int i t) = true:=keyIs_int i t
theorem mixKind_str (prog:Program) (w:World) (x:Str) (t:Tok):(mixKind prog w).is (.inr x) (.str x t) = true:=keyIs_str x t
end L2
namespace L2
open PySem PySem.Spec PyProof.Rows
inductive V where
  | non | bl (b:Bool) | int (i:Int) | str (x:Str) | byt (b:Array UInt8) | flt (b:UInt64) | ref (a:Addr) | ty (n:String)
  deriving DecidableEq
noncomputable def RelV:V -> Value -> Prop
  | .non,u => u = Value.none
  | .bl b,u => u = Value.bool b
  | .int i,u => ∃ t,u = Value.int i t
  | .str x,u => ∃ t,u = Value.str x t
  | .byt b,u => ∃ t,u = Value.bytes b t
  | .flt b,u => ∃ t,u = Value.float b t
  | .ref a,u => u = Value.ref a
  | .ty n,u => u = Value.type n
noncomputable abbrev Vals:List V -> List Value -> Prop:=Paired RelV
theorem Vals.length {xs:List V} {us:List Value} (r:Vals xs us):xs.length = us.length:=Paired.length r
theorem Vals.get:∀ {xs:List V} {us:List Value} {i:Nat} {x:V},Vals xs us -> xs[i]? = some x -> ∃ u,us[i]? = some u /\ RelV x u
  | _,_,_,_,.nil,e => by simp at e
  | _,_,0,_,.cons r _,e => by simp at e; subst e; exact ⟨_,rfl,r⟩
  | _,_,i + 1,x,.cons _ t,e => by
    obtain ⟨u,h1,h2⟩:=Vals.get (i:=i) (x:=x) t (by simpa using e)
    exact ⟨u,by simpa using h1,h2⟩
theorem Vals.append:∀ {xs ys:List V} {us ws:List Value},Vals xs us -> Vals ys ws -> Vals (xs ++ ys) (us ++ ws)
  | _,_,_,_,.nil,s => s
  | _,_,_,_,.cons r t,s => .cons r (Vals.append t s)
noncomputable def RelO:Option V -> Option Value -> Prop
  | some v,some u => RelV v u
  | none,none => True
  | _,_ => False
noncomputable def KV {κ:Type}:List (κ×V) -> List (κ×Value) -> Prop:=Paired fun (p:κ×V) (q:κ×Value) => p.1 = q.1 /\ RelV p.2 q.2
noncomputable def kV:Key -> V
  | .inl i => .int i
  | .inr x => .str x
inductive HO where
    | lst (xs:List V)
    | tup (xs:List V)
    | dK (kvs:List (Key×V)) | dT (kvs:List (List Key×V))
    | set (S:Int -> Bool) (n:Nat)
    | ins (C dx:Addr) (fs:List (Str×V))
    | own (x:Addr)
    | xd (fs:List (Str×V))
    | met (f x:Addr)
    | rng (lo hi:Int)
    | frz (o:Obj) (u:HO)
    | tbl (ps:Array Value)
    | ext (φ:Heap -> Prop)
noncomputable abbrev Hp:=Addr -> Option HO
noncomputable def upd (H:Hp) (a:Addr) (o:HO):Hp:=fun b => if b = a then some o else H b
theorem upd_same {H:Hp} {a:Addr} {o:HO}:upd H a o a = some o:=by unfold upd; rw [if_pos rfl]
theorem upd_ne {H:Hp} {a b:Addr} {o:HO} (h:b ≠ a):upd H a o b = H b:=by unfold upd; rw [if_neg h]
theorem upd_upd {H:Hp} {a:Addr} {o u:HO}:upd (upd H a o) a u = upd H a u:=by
  funext b; unfold upd; split <;> rfl
theorem ne_of {H:Hp} {a b:Addr} {o u:HO} (h:H a = some o) (h':H b = some u) (d:o ≠ u):a ≠ b:=by
  intro e; subst e; rw [h] at h'; exact d (Option.some.inj h')
theorem ne_of_none {H:Hp} {a b:Addr} {o:HO} (h:H a = some o) (h':H b = none):a ≠ b:=by
  intro e; subst e; rw [h] at h'; cases h'
section
variable (P:Program) (w:World)
noncomputable def ObjOk (H:Hp) (h:Heap) (a:Addr):HO -> Prop
  | .lst xs => xs.length <= sizeLine /\ ∃ (its:List Value) (n:Nat),Vals xs its /\ h.get? a = some { cls:=.type "list",data:=.seq its.toArray n }
  | .tup xs => xs.length <= sizeLine /\ ∃ its:List Value,Vals xs its /\ IsTup h a its.toArray
  | .dK kvs => kvs.length <= sizeLine /\ (a == sysModules) = false /\ ∃ vs,KV kvs vs /\ h.DictOf (mixKind P w) a vs
  | .dT kvs => kvs.length <= sizeLine /\ (a == sysModules) = false /\ ∃ xs:List (List Key×Addr×Value),
      Paired (fun (p:List Key×V) (q:List Key×Addr×Value) => p.1 = q.1 /\ H q.2.1 = some (.tup (p.1.map kV)) /\ RelV p.2 q.2.2) kvs xs /\
      ∃ o es ep,h.get? a = some o /\ o.ExactDict /\ o.data = .dict es ep /\ es.toList = xs.map (entryOfKey (tupleKind (mixKind P w))) /\ (xs.map (·.1)).Nodup
  | .set S n => h.SetOf (intKind P w) a S n
  | .ins C dx fs => H dx = some (.own a) /\ fs.length <= 1000 /\ dx ≠ a /\ h.get? a = some (PySem.W.instObj C dx) /\
      ∃ mA,h.Ns1 dx mA /\ (∀ f,RelO (fs.lookup f) (mA f)) /\ PySem.Within mA (fs.map (·.1))
  | .own _ => ∃ o,h.get? a = some o
  | .xd fs => ∃ mA,h.Ns1 a mA /\ ∀ f,RelO (fs.lookup f) (mA f)
  | .rng lo hi => ∃ t u v,h.get? a = some { cls:=.type "range",data:=.fields #[.int lo t,.int hi u,.int 1 v] }
  | .frz o u => h.get? a = some o /\ ObjOk H h a u
  | .tbl ps => h.get? a = some { cls:=.none,data:=.fields ps }
  | .met f x => h.get? a = some (PySem.W.methodObj (.ref f) (.ref x))
  | .ext φ => φ h /\ (∃ o,h.get? a = some o) /\ ∀ h1 h2:Heap,φ h1 -> (∀ o,h1.get? a = some o -> h2.get? a = some o) -> φ h2
noncomputable def HOk (H:Hp) (h:Heap):Prop:=∀ a o,H a = some o -> ObjOk P w H h a o
end
section
variable {P:Program} {w:World} {H H':Hp} {h h':Heap} {a:Addr} {o:HO}
theorem ObjOk.lt (x:ObjOk P w H h a o):a < h.objs.size:=by
  cases o with
  | lst xs => obtain ⟨_,_,_,_,e⟩:=x; exact Heap.lt_size e
  | tup xs => obtain ⟨_,_,_,p⟩:=x; exact p.lt
  | dK kvs => obtain ⟨_,_,_,_,o,_,_,e,_⟩:=x; exact Heap.lt_size e
  | dT kvs => obtain ⟨_,_,_,_,o,_,_,e,_⟩:=x; exact Heap.lt_size e
  | set S n => obtain ⟨o,_,_,_,e,_⟩:=x; exact Heap.lt_size e
  | ins C dx fs => obtain ⟨_,_,_,e,_⟩:=x; exact Heap.lt_size e
  | own y => obtain ⟨_,e⟩:=x; exact Heap.lt_size e
  | xd fs => obtain ⟨_,⟨_,_,_,e,_⟩,_⟩:=x; exact Heap.lt_size e
  | rng lo hi => obtain ⟨_,_,_,e⟩:=x; exact Heap.lt_size e
  | frz ob u => obtain ⟨e,_⟩:=x; exact Heap.lt_size e
  | tbl ps => exact Heap.lt_size (show h.get? a = some _ from x)
  | met f y => exact Heap.lt_size (show h.get? a = some _ from x)
  | ext φ => obtain ⟨_,⟨_,e⟩,_⟩:=x; exact Heap.lt_size e
theorem Paired.mapP {α β:Type} {F G:α -> β -> Prop}:∀ {l₁:List α} {l₂:List β},Paired F l₁ l₂ -> (∀ a b,F a b -> G a b) -> Paired G l₁ l₂
  | _,_,.nil,_ => .nil
  | _,_,.cons r t,f => .cons (f _ _ r) (Paired.mapP t f)
theorem ObjOk.stay (x:ObjOk P w H h a o) (k:∀ b u,(b = a ∨ H b = some (.own a)) -> h.get? b = some u -> h'.get? b = some u)
    (ho:∀ b,H b = some (.own a) -> H' b = some (.own a)) (ht:∀ b xs,H b = some (.tup xs) -> H' b = some (.tup xs)):ObjOk P w H' h' a o:=by
  induction o with
  | lst xs => obtain ⟨z,its,n,r,e⟩:=x; exact ⟨z,its,n,r,k _ _ (.inl rfl) e⟩
  | tup xs => obtain ⟨z,its,r,ob,e,c⟩:=x; exact ⟨z,its,r,ob,k _ _ (.inl rfl) e,c⟩
  | dK kvs => obtain ⟨z,y,vs,r,ob,es,ep,e,c⟩:=x; exact ⟨z,y,vs,r,ob,es,ep,k _ _ (.inl rfl) e,c⟩
  | dT kvs =>
    obtain ⟨z,y,xs,r,ob,es,ep,e,c⟩:=x
    exact ⟨z,y,xs,Paired.mapP r fun p q z => ⟨z.1,ht _ _ z.2.1,z.2.2⟩,ob,es,ep,k _ _ (.inl rfl) e,c⟩
  | set S n => obtain ⟨ob,es,ep,t,e,c⟩:=x; exact ⟨ob,es,ep,t,k _ _ (.inl rfl) e,c⟩
  | ins C dx fs =>
    obtain ⟨d,z,ne,e,mA,⟨od,es,ep,e2,c⟩,r⟩:=x
    exact ⟨ho _ d,z,ne,k _ _ (.inl rfl) e,mA,⟨od,es,ep,k _ _ (.inr d) e2,c⟩,r⟩
  | own y => obtain ⟨ob,e⟩:=x; exact ⟨ob,k _ _ (.inl rfl) e⟩
  | xd fs => obtain ⟨mA,⟨od,es,ep,e,c⟩,r⟩:=x; exact ⟨mA,⟨od,es,ep,k _ _ (.inl rfl) e,c⟩,r⟩
  | rng lo hi => obtain ⟨t,u,v,e⟩:=x; exact ⟨t,u,v,k _ _ (.inl rfl) e⟩
  | frz ob u ih => obtain ⟨e,q⟩:=x; exact ⟨k _ _ (.inl rfl) e,ih q⟩
  | tbl ps =>
    have e:h.get? a = some { cls:=.none,data:=.fields ps }:=x
    show h'.get? a = some { cls:=.none,data:=.fields ps }
    exact k a _ (.inl rfl) e
  | met f y =>
    have e:h.get? a = some (PySem.W.methodObj (.ref f) (.ref y)):=x
    show h'.get? a = some (PySem.W.methodObj (.ref f) (.ref y))
    exact k a _ (.inl rfl) e
  | ext φ => obtain ⟨p,⟨o,e⟩,st⟩:=x; exact ⟨st _ _ p fun o q => k _ _ (.inl rfl) q,⟨o,k _ _ (.inl rfl) e⟩,st⟩
theorem HOk.lt (x:HOk P w H h) (e:H a = some o):a < h.objs.size:=(x a o e).lt
theorem HOk.fresh (x:HOk P w H h) (e:h.objs.size <= a):H a = none:=by
  cases q:H a with
  | none => rfl
  | some u => exact absurd (Nat.lt_of_lt_of_le (x.lt q) e) (Nat.lt_irrefl _)
theorem HOk.kept (x:HOk P w H h) (k:∀ b u,h.get? b = some u -> h'.get? b = some u):HOk P w H h':=fun a o e =>
  (x a o e).stay (fun b u _ q => k b u q) (fun _ q => q) fun _ _ q => q
theorem HOk.laid (x:HOk P w H h) (k:∀ b u,h.get? b = some u -> h'.get? b = some u) (hp:h.objs.size <= a) (new:ObjOk P w (upd H a o) h' a o):HOk P w (upd H a o) h':=fun b u e => by
  have hn:=x.fresh hp
  by_cases hb:b = a
  . subst hb; rw [upd_same] at e; cases e; exact new
  . rw [upd_ne hb] at e
    exact (x b u e).stay (fun c v _ q => k c v q) (fun c q => by rw [upd_ne (ne_of_none q hn)]; exact q) fun c xs q => by rw [upd_ne (ne_of_none q hn)]; exact q
end
noncomputable def Rd (H:Hp) (a:Addr) (u:HO):Prop:=H a = some u ∨ ∃ o,H a = some (.frz o u)
theorem Rd.ok {P:Program} {w:World} {H:Hp} {h:Heap} {a:Addr} {u:HO} (r:Rd H a u) (x:HOk P w H h):ObjOk P w H h a u:=by
  rcases r with r | ⟨o,r⟩
  . exact x a u r
  . obtain ⟨_,q⟩:=x a _ r
    exact q
noncomputable def Mut:Option HO -> Prop
  | some (.lst _) => True
  | some (.dK _) => True
  | some (.dT _) => True
  | some (.set _ _) => True
  | some (.ins _ _ _) => True
  | some (.ext _) => True
  | _ => False
section
variable {P:Program} {w:World} {H:Hp} {h h':Heap} {x e:Addr} {o':HO}
theorem HOk.write (ok:HOk P w H h) (mu:Mut (H x)) (he:e = x ∨ H e = some (.own x)) (k:∀ b u,b ≠ e -> h.get? b = some u -> h'.get? b = some u) (heo:∃ u,h'.get? e = some u)
    (new:ObjOk P w (upd H x o') h' x o'):HOk P w (upd H x o') h':=fun b u q => by
  have nown:∀ c y,H c = some (.own y) -> c ≠ x:=fun c y r z => by subst z; rw [r] at mu; exact mu
  have ntup:∀ c xs,H c = some (.tup xs) -> c ≠ x:=fun c xs r z => by subst z; rw [r] at mu; exact mu
  by_cases hb:b = x
  . subst hb; rw [upd_same] at q; cases q; exact new
  . rw [upd_ne hb] at q
    by_cases hbe:b = e
    . have q':H b = some (.own x):=by
        rcases he with z | z
        . exact absurd (hbe.trans z) hb
        . rw [hbe]; exact z
      rw [q] at q'; cases q'
      obtain ⟨v,hv⟩:=heo
      exact ⟨v,by rw [hbe]; exact hv⟩
    . refine (ok b u q).stay (fun c v hc r => k c v ?_ r) (fun c r => by rw [upd_ne (nown c b r)]; exact r) fun c xs r => by rw [upd_ne (ntup c xs r)]; exact r
      rcases hc with rfl | hc
      . exact hbe
      . rintro rfl
        rcases he with z | z
        . exact nown c b hc z
        . rw [hc] at z; cases z; exact hb rfl
end
structure Un (fs ex:List Addr) (H H':Hp) (h h':Heap):Prop where
  keep:∀ b o,h.get? b = some o -> H b = none -> b ∉ fs -> b ∉ ex -> h'.get? b = some o
  slot:∀ b o,h.get? b = some o -> H b = none -> b ∈ fs -> b ∉ ex -> ∃ sl,h'.get? b = some { o with slots:=sl }
  free:∀ b o,h.get? b = some o -> H b = none -> b ∉ ex -> H' b = none
  there:∀ b o,h.get? b = some o -> b ∉ ex -> ∃ o',h'.get? b = some o'
  tups:∀ b xs,H b = some (.tup xs) -> H' b = some (.tup xs)
  frzs:∀ b o u,H b = some (.frz o u) -> H' b = some (.frz o u)
  tbls:∀ b ps,H b = some (.tbl ps) -> ∃ more,H' b = some (.tbl (ps ++ more))
section
variable {fs fs' ex ex':List Addr} {H H1 H2:Hp} {h h1 h2 h':Heap} {a x e:Addr} {o:HO}
theorem Un.any (u:Un fs ex H H1 h h1) {b:Addr} {ob:Obj} (q:h.get? b = some ob) (n:H b = none) (hx:b ∉ ex):∃ sl,h1.get? b = some { ob with slots:=sl }:=by
  by_cases hb:b ∈ fs
  . exact u.slot b ob q n hb hx
  . exact ⟨ob.slots,u.keep b ob q n hb hx⟩
theorem Un.trans (a:Un fs ex H H1 h h1) (b:Un fs ex H1 H2 h1 h2):Un fs ex H H2 h h2 where
  keep:=fun c ob q n hc hx => b.keep c ob (a.keep c ob q n hc hx) (a.free c ob q n hx) hc hx
  slot:=fun c ob q n hc hx => by
    obtain ⟨sl,e1⟩:=a.slot c ob q n hc hx
    obtain ⟨sl',e2⟩:=b.slot c _ e1 (a.free c ob q n hx) hc hx
    exact ⟨sl',e2⟩
  free:=fun c ob q n hx => by
    obtain ⟨o',e1⟩:=a.there c ob q hx
    exact b.free c o' e1 (a.free c ob q n hx) hx
  there:=fun c ob q hx => by
    obtain ⟨o',e1⟩:=a.there c ob q hx
    exact b.there c o' e1 hx
  tups:=fun c xs q => b.tups c xs (a.tups c xs q)
  frzs:=fun c ob xs q => b.frzs c ob xs (a.frzs c ob xs q)
  tbls:=fun c ps q => by
    obtain ⟨m1,e1⟩:=a.tbls c ps q
    obtain ⟨m2,e2⟩:=b.tbls c _ e1
    exact ⟨m1 ++ m2,by rw [e2,Array.append_assoc]⟩
theorem Un.kept (k:∀ b u,h.get? b = some u -> h'.get? b = some u):Un fs ex H H h h' :=
  ⟨fun b ob q _ _ _ => k b ob q,fun b ob q _ _ _ => ⟨ob.slots,k b ob q⟩,fun _ _ _ n _ => n,fun b ob q _ => ⟨ob,k b ob q⟩,fun _ _ q => q,fun _ _ _ q => q,fun _ ps q => ⟨#[],by rw [q]; simp⟩⟩
theorem Un.refl:Un fs ex H H h h:=Un.kept fun _ _ q => q
theorem Un.laid (k:∀ b u,h.get? b = some u -> h'.get? b = some u) (hp:h.objs.size <= a) (hn:H a = none):Un fs ex H (upd H a o) h h' where
  keep:=fun b u q _ _ _ => k b u q
  slot:=fun b u q _ _ _ => ⟨u.slots,k b u q⟩
  free:=fun b u q n _ => by rw [upd_ne (Nat.ne_of_lt (Nat.lt_of_lt_of_le (Heap.lt_size q) hp))]; exact n
  there:=fun b u q _ => ⟨u,k b u q⟩
  tups:=fun b xs q => by rw [upd_ne (ne_of_none q hn)]; exact q
  frzs:=fun b u xs q => by rw [upd_ne (ne_of_none q hn)]; exact q
  tbls:=fun b ps q => ⟨#[],by rw [upd_ne (ne_of_none q hn),q]; simp⟩
theorem Un.write (mu:Mut (H x)) (he:e = x ∨ H e = some (.own x)) (k:∀ b u,b ≠ e -> h.get? b = some u -> h'.get? b = some u) (heo:∃ u,h'.get? e = some u):Un fs ex H (upd H x o) h h':=by
  have hx:∀ b,H b = none -> b ≠ x:=fun b n z => by subst z; rw [n] at mu; exact mu
  have hb:∀ b,H b = none -> b ≠ e:=fun b n z => by
    subst z
    rcases he with r | r
    . exact hx b n r
    . rw [n] at r; cases r
  have hm:∀ b u,H b = some u -> ¬ Mut (some u) -> b ≠ x:=fun b u q nm z => by subst z; rw [q] at mu; exact nm mu
  refine ⟨fun b u q n _ _ => k b u (hb b n) q,fun b u q n _ _ => ⟨u.slots,k b u (hb b n) q⟩,fun b u q n _ => by rw [upd_ne (hx b n)]; exact n,fun b u q _ => ?_,
    fun b xs q => by rw [upd_ne (hm b _ q fun z => z)]; exact q,fun b u xs q => by rw [upd_ne (hm b _ q fun z => z)]; exact q,fun b ps q => ⟨#[],by rw [upd_ne (hm b _ q fun z => z),q]; simp⟩⟩
  by_cases hbe:b = e
  . subst hbe; exact heo
  . exact ⟨u,k b u hbe q⟩
end
noncomputable def trk (h:Heap) (H:Hp):List Addr:=(List.range h.objs.size).filter fun a => (H a).isSome
noncomputable def hidT (h:Heap) (H:Hp):Heap:=PySem.W.hideAll h (trk h H)
theorem hidT_size (h:Heap) (H:Hp):(hidT h H).objs.size = h.objs.size:=PySem.W.hideAll_size _ _
theorem hidT_get {h:Heap} {H:Hp} {b:Addr} {o:Obj} (e:h.get? b = some o) (n:H b = none):(hidT h H).get? b = some o :=
  PySem.W.hideAll_get _ e fun hm => by
    have q:(H b).isSome = true:=(List.mem_filter.mp hm).2
    rw [n] at q; simp at q
theorem of_hidT {h:Heap} {H:Hp} {b:Addr} {o:Obj} (e:(hidT h H).get? b = some o):h.get? b = some o /\ H b = none:=by
  have e':h.get? b = some o:=PySem.W.of_hideAll (trk h H) e
  refine ⟨e',?_⟩
  cases q:H b with
  | none => rfl
  | some x =>
    have hm:b ∈ trk h H:=List.mem_filter.mpr ⟨List.mem_range.mpr (Heap.lt_size e'),by simp [q]⟩
    have z:(hidT h H).get? b = none:=PySem.W.hideAll_none (trk h H) hm
    rw [z] at e; cases e
noncomputable def allNews (g h:Heap) (L:Addr):List (Addr×Obj):=(List.range h.objs.size).filterMap fun a => if a = L ∨ (g.get? a).isSome = true then none else (h.get? a).map fun o => (a,o)
noncomputable def rest (g h:Heap) (L d:Addr):List (Addr×Obj):=(allNews g h L).filter fun p => decide (p.1 ≠ d)
end L2
namespace L2
open PySem PySem.Spec PyProof.Rows
structure Mod (K:PySem.W.Frag) (mg:Str -> Option Value) (base:Heap):Prop where
  kin:K.In base
  glob:base.Ns mainGlobals mg
  blt:∃ mb,base.Ns builtinsNs mb /\ ∀ x:Str,x ≠ "__name__" -> mb x = bootBuiltins x
  nolimit:base.NoLimit
set_option genInjectivity false in
set_option genSizeOfSpec false in
structure Cx where
  prog:Program
  w:World
  K:PySem.W.Frag
  mg:Str -> Option Value
  base:Heap
  A:Around
  N:List Str
  s₀:Shared
  H₀:Hp
  env:Env
  outer:List Env
  stack:List Env
  ex:List Addr
  fn:Str -> Bool
  calm:Bool
  pn:List (Addr×Obj)
  xe:Value -> Shared -> Prop
noncomputable def frs (l:List Env):List Addr:=l.filterMap (·.frame)
noncomputable abbrev Cx.fs (X:Cx):List Addr:=frs X.outer
noncomputable def Vis (sc:Scope) (x:Str):Prop:=sc.names.lookup x = some .local ∨ sc.names.lookup x = some .cell ∨ sc.names.lookup x = some .free
noncomputable def Loc (sc:Scope) (x:Str):Prop:=sc.names.lookup x = some .local ∨ sc.names.lookup x = some .cell
noncomputable def Look (env:Env) (h:Heap) (m:Str -> Option Value) (x:Str) (u:Value):Prop :=
  (env.kindOf x = some .local /\ m x = some u) ∨ ((env.kindOf x = some .cell ∨ env.kindOf x = some .free) /\ ∃ c,env.cells.lookup x = some c /\ h.IsCell c (some u))
structure Cx.Ok (X:Cx):Prop where
  mod:Mod X.K X.mg X.base
  kind:X.env.scope.kind = .function
  glob:X.env.globals = mainGlobals
  blt:X.env.builtins = builtinsNs
  above:X.s₀.heap.objs.size <= X.env.locals
  inj:∀ x y c,X.env.cells.lookup x = some c -> X.env.cells.lookup y = some c -> x = y
  has:∀ x,(X.env.kindOf x = some .cell ∨ X.env.kindOf x = some .free) -> ∃ c,X.env.cells.lookup x = some c
  cab:∀ x c,X.fn x = true -> X.env.cells.lookup x = some c -> X.s₀.heap.objs.size <= c
  hd:X.calm = true -> X.A.handled = none
  frames:X.A.frames = some X.stack
  stk:X.stack = X.outer ∨ (X.stack = X.env :: X.outer /\ X.env.frame = some X.env.locals)
  exf:∀ b ∈ X.ex,b ≠ X.env.locals /\ ∀ x c,X.env.cells.lookup x = some c -> c ≠ b
  bs:∀ b o,X.base.get? b = some o -> X.s₀.heap.get? b = some o /\ X.H₀ b = none
  bsz:X.base.objs.size <= X.s₀.heap.objs.size
  noex:∀ b o,X.base.get? b = some o -> b ∉ X.ex
  exfs:∀ b ∈ X.ex,b ∉ X.fs
  funs:X.s₀.heap.FunFrames X.base X.outer
  frf:∀ b ∈ X.fs,X.H₀ b = none
structure Inv (X:Cx) (pins:List (Addr×Obj)) (σ:List (Option V)) (H:Hp) (s:Shared):Prop where
  ok:X.Ok
  os:s.os = X.s₀.os
  bare:AllBare s.gens
  base:Un X.fs X.ex X.H₀ H X.s₀.heap s.heap
  loc:∃ m,s.heap.Ns X.env.locals m /\ ∀ (i:Nat) (x:Str) (v:V),X.N[i]? = some x -> σ[i]? = some (some v) -> Vis X.env.scope x -> ∃ u,RelV v u /\ Look X.env s.heap m x u
  cell:∀ x c,X.env.cells.lookup x = some c -> ∃ v,s.heap.IsCell c v
  free:H X.env.locals = none
  freeC:∀ x c,X.env.cells.lookup x = some c -> H c = none
  pin:∀ p ∈ X.pn ++ pins,s.heap.get? p.1 = some p.2 /\ H p.1 = none /\ p.1 ≠ X.env.locals /\ p.1 ∉ X.fs /\ ∀ v,p.2.data ≠ .cell v
  hok:HOk X.prog X.w H s.heap
  len:σ.length = X.N.length
section
variable {X:Cx} {pins:List (Addr×Obj)} {σ:List (Option V)} {H H':Hp} {s:Shared} {h':Heap}
theorem Cx.Ok.nofr (ok:X.Ok) {b:Addr} {o:Obj} (e:X.base.get? b = some o):b ∉ X.fs:=fun hb => by
  have:=(ok.funs.mem hb).1
  rw [e] at this; cases this
theorem Inv.bs (I:Inv X pins σ H s):∀ b o,X.base.get? b = some o -> s.heap.get? b = some o /\ H b = none:=fun b o e =>
  ⟨I.base.keep b o (I.ok.bs b o e).1 (I.ok.bs b o e).2 (I.ok.nofr e) (I.ok.noex b o e),I.base.free b o (I.ok.bs b o e).1 (I.ok.bs b o e).2 (I.ok.noex b o e)⟩
theorem Inv.bk (I:Inv X pins σ H s):∀ b o,X.base.get? b = some o -> s.heap.get? b = some o:=fun b o e => (I.bs b o e).1
theorem Inv.mod (I:Inv X pins σ H s):Mod X.K X.mg X.base:=I.ok.mod
theorem Inv.kIn (I:Inv X pins σ H s):X.K.In s.heap:=I.ok.mod.kin.keeps I.bk
theorem Inv.lt (I:Inv X pins σ H s):X.env.locals < s.heap.objs.size:=let ⟨_,hn,_⟩:=I.loc; hn.lt
theorem Inv.sz (I:Inv X pins σ H s):X.s₀.heap.objs.size <= s.heap.objs.size:=Nat.le_trans I.ok.above (Nat.le_of_lt I.lt)
theorem Inv.nofs (I:Inv X pins σ H s) {a:Addr} (h:s.heap.objs.size <= a):a ∉ X.fs:=fun hb => by
  obtain ⟨_,o,ho,_⟩:=I.ok.funs.mem hb
  exact absurd (Nat.lt_of_lt_of_le (Heap.lt_size ho) (Nat.le_trans I.sz h)) (Nat.lt_irrefl _)
theorem Inv.cne (I:Inv X pins σ H s):∀ x c,X.env.cells.lookup x = some c -> c ≠ X.env.locals:=fun x c e z => by
  obtain ⟨v,o,ho,hd⟩:=I.cell x c e
  obtain ⟨m,⟨o',es,ep,ho',hd',_⟩,_⟩:=I.loc
  rw [z,ho'] at ho; cases ho; rw [hd'] at hd; cases hd
theorem Inv.funs (I:Inv X pins σ H s):s.heap.FunFrames X.base X.outer:=by
  have all:∀ (l:List Env),(∀ b ∈ frs l,b ∈ X.fs) -> X.s₀.heap.FunFrames X.base l -> s.heap.FunFrames X.base l:=by
    intro l
    induction l with
    | nil => intro _ _; trivial
    | cons env r ih =>
      intro hs hl
      obtain ⟨hk,⟨L,o,hf,hn,ho,hd⟩,hr⟩:=hl
      have hL:L ∈ X.fs:=hs L (by unfold frs; rw [List.filterMap_cons,hf]; exact List.mem_cons_self)
      obtain ⟨sl,e⟩:=I.base.slot L o ho (I.ok.frf L hL) hL fun z => I.ok.exfs L z hL
      exact ⟨hk,⟨L,_,hf,hn,e,hd⟩,ih (fun b hb => hs b (by unfold frs; rw [List.filterMap_cons,hf]; exact List.mem_cons_of_mem _ hb)) hr⟩
  exact all X.outer (fun _ hb => hb) I.ok.funs
theorem Inv.stack (I:Inv X pins σ H s):s.heap.FunFrames X.base X.stack:=by
  rcases I.ok.stk with e | ⟨e,hf⟩
  . rw [e]; exact I.funs
  . rw [e]
    obtain ⟨m,hn,_⟩:=I.loc
    refine .cons (by rw [I.ok.kind]; decide) hf hn ?_ I.funs
    exact Heap.get?_none_of_le (Nat.le_trans I.ok.bsz I.ok.above)
theorem Inv.stkSub (I:Inv X pins σ H s):∀ b ∈ frs X.stack,b ∈ X.env.locals :: X.fs:=fun b hb => by
  rcases I.ok.stk with e | ⟨e,hf⟩
  . rw [e] at hb; exact List.mem_cons_of_mem _ hb
  . rw [e] at hb
    unfold frs at hb
    rw [List.filterMap_cons,hf] at hb
    exact hb
theorem Inv.stkFree (I:Inv X pins σ H s):∀ b ∈ frs X.stack,H b = none:=fun b hb => by
  rcases List.mem_cons.mp (I.stkSub b hb) with e | hb
  . rw [e]; exact I.free
  . obtain ⟨_,o,ho,_⟩:=I.ok.funs.mem hb
    exact I.base.free b o ho (I.ok.frf b hb) fun z => I.ok.exfs b z hb
theorem Inv.step {g':Array GenState} {t':Nat} {d':Drawn} {ch:List Addr} (I:Inv X pins σ H s)
    (hch:∀ b ∈ ch,(b ∈ X.ex ∨ X.s₀.heap.objs.size <= b) /\ b ≠ X.env.locals /\ (∀ x c,X.env.cells.lookup x = some c -> c ≠ b) /\ ∀ p ∈ X.pn ++ pins,p.1 ≠ b)
    (keep:∀ b o,b ≠ X.env.locals -> b ∉ X.fs -> b ∉ ch -> s.heap.get? b = some o -> H b = none -> h'.get? b = some o)
    (slot:∀ b o,b ≠ X.env.locals -> b ∈ X.fs -> b ∉ ch -> s.heap.get? b = some o -> H b = none -> ∃ sl,h'.get? b = some { o with slots:=sl }) (free:∀ b o,b ∉ ch -> s.heap.get? b = some o -> H b = none -> H' b = none)
    (there:∀ b o,b ∉ ch -> s.heap.get? b = some o -> ∃ o',h'.get? b = some o')
    (tups:∀ b xs,H b = some (.tup xs) -> H' b = some (.tup xs)) (frzs:∀ b o u,H b = some (.frz o u) -> H' b = some (.frz o u)) (tbls:∀ b ps,H b = some (.tbl ps) -> ∃ more,H' b = some (.tbl (ps ++ more)))
    (ns:∀ m,s.heap.Ns X.env.locals m -> h'.Ns X.env.locals m) (hok:HOk X.prog X.w H' h') (hg:AllBare g') :
    Inv X pins σ H' { s with heap:=h',gens:=g',drawn:=d',toks:=t' }:=by
  have neL:∀ b o,X.s₀.heap.get? b = some o -> b ≠ X.env.locals:=fun b o e => Nat.ne_of_lt (Nat.lt_of_lt_of_le (Heap.lt_size e) I.ok.above)
  have neC:∀ b o,X.s₀.heap.get? b = some o -> b ∉ X.ex -> b ∉ ch:=fun b o e hx hb => by
    rcases (hch b hb).1 with z | z
    . exact hx z
    . exact absurd (Nat.lt_of_lt_of_le (Heap.lt_size e) z) (Nat.lt_irrefl _)
  have cellK:∀ x c,X.env.cells.lookup x = some c -> ∀ v,s.heap.IsCell c v -> h'.IsCell c v:=fun x c e v ⟨o,ho,hd⟩ => by
    have nch:c ∉ ch:=fun z => (hch c z).2.2.1 x c e rfl
    by_cases hc:c ∈ X.fs
    . obtain ⟨sl,q⟩:=slot c o (I.cne x c e) hc nch ho (I.freeC x c e)
      exact ⟨_,q,hd⟩
    . exact ⟨o,keep c o (I.cne x c e) hc nch ho (I.freeC x c e),hd⟩
  refine ⟨I.ok,I.os,hg,⟨fun b o e n hb hx => ?_,fun b o e n hb hx => ?_,fun b o e n hx => ?_,fun b o e hx => ?_,fun b xs e => tups b xs (I.base.tups b xs e),fun b o xs e => frzs b o xs (I.base.frzs b o xs e),fun b ps e => ?_⟩,?_,fun x c e => ?_,?_,fun x c e => ?_,fun p hp => ?_,hok,I.len⟩
  . exact keep b o (neL b o e) hb (neC b o e hx) (I.base.keep b o e n hb hx) (I.base.free b o e n hx)
  . obtain ⟨sl,e1⟩:=I.base.slot b o e n hb hx
    obtain ⟨sl',e2⟩:=slot b _ (neL b o e) hb (neC b o e hx) e1 (I.base.free b o e n hx)
    exact ⟨sl',e2⟩
  . obtain ⟨o',e1⟩:=I.base.there b o e hx
    exact free b o' (neC b o e hx) e1 (I.base.free b o e n hx)
  . obtain ⟨o',e1⟩:=I.base.there b o e hx
    exact there b o' (neC b o e hx) e1
  . obtain ⟨m1,e1⟩:=I.base.tbls b ps e
    obtain ⟨m2,e2⟩:=tbls b _ e1
    exact ⟨m1 ++ m2,by rw [e2,Array.append_assoc]⟩
  . obtain ⟨m,hn,hl⟩:=I.loc
    refine ⟨m,ns m hn,fun i x v e1 e2 e3 => ?_⟩
    obtain ⟨u,r,l⟩:=hl i x v e1 e2 e3
    refine ⟨u,r,?_⟩
    rcases l with l | ⟨k,c,e,z⟩
    . exact .inl l
    . exact .inr ⟨k,c,e,cellK x c e _ z⟩
  . obtain ⟨v,z⟩:=I.cell x c e
    exact ⟨v,cellK x c e v z⟩
  . obtain ⟨m,⟨o,_,_,ho,_⟩,_⟩:=I.loc
    exact free _ o (fun z => (hch _ z).2.1 rfl) ho I.free
  . obtain ⟨v,o,ho,hd⟩:=I.cell x c e
    exact free c o (fun z => (hch c z).2.2.1 x c e rfl) ho (I.freeC x c e)
  . obtain ⟨e,n,ne,nf,d⟩:=I.pin p hp
    have nch:p.1 ∉ ch:=fun z => (hch p.1 z).2.2.2 p hp rfl
    exact ⟨keep p.1 p.2 ne nf nch e n,free p.1 p.2 nch e n,ne,nf,d⟩
theorem Inv.un {t':Nat} (I:Inv X pins σ H s) (u:Un X.fs [] H H' s.heap h') (hok:HOk X.prog X.w H' h'):Inv X pins σ H' { s with heap:=h',toks:=t' }:=by
  obtain ⟨m,⟨o,es,ep,ho,r⟩,_⟩:=id I.loc
  obtain ⟨sl,hL⟩:=u.any ho I.free (by simp)
  exact I.step (g':=s.gens) (d':=s.drawn) (ch:=[]) (fun _ z => nomatch z) (fun b o _ hb _ e n => u.keep b o e n hb (by simp)) (fun b o _ hb _ e n => u.slot b o e n hb (by simp)) (fun b o _ e n => u.free b o e n (by simp)) (fun b o _ e => u.there b o e (by simp)) u.tups u.frzs u.tbls (fun m' hm => by
    obtain ⟨o',es',ep',ho',r'⟩:=hm
    rw [ho] at ho'; cases ho'
    exact ⟨_,es',ep',hL,r'⟩) hok I.bare
theorem Inv.call {g':Array GenState} {t':Nat} {d':Drawn} {ch:List Addr} (I:Inv X pins σ H s) (u:Un (frs X.stack) ch H H' s.heap h') (hok:HOk X.prog X.w H' h') (hg:AllBare g')
    (hch:∀ b ∈ ch,(b ∈ X.ex ∨ X.s₀.heap.objs.size <= b) /\ b ≠ X.env.locals /\ (∀ x c,X.env.cells.lookup x = some c -> c ≠ b) /\ ∀ p ∈ X.pn ++ pins,p.1 ≠ b) :
    Inv X pins σ H' { s with heap:=h',gens:=g',drawn:=d',toks:=t' }:=by
  obtain ⟨m,⟨o,es,ep,ho,r⟩,_⟩:=id I.loc
  obtain ⟨sl,hL⟩:=u.any ho I.free fun z => (hch _ z).2.1 rfl
  exact I.step (ch:=ch) hch (fun b o hL hb hc e n => u.keep b o e n (fun z => (List.mem_cons.mp (I.stkSub b z)).elim hL hb) hc) (fun b o _ _ hc e n => u.any e n hc) (fun b o hc e n => u.free b o e n hc) (fun b o hc e => u.there b o e hc) u.tups u.frzs u.tbls (fun m' hm => by
    obtain ⟨o',es',ep',ho',r'⟩:=hm
    rw [ho] at ho'; cases ho'
    exact ⟨_,es',ep',hL,r'⟩) hok hg
theorem Inv.turned {t':Nat} {it:Addr} (I:Inv X pins σ H s) (k:∀ b o,b ≠ it -> s.heap.get? b = some o -> h'.get? b = some o) (hn:H it = none) (hL:it ≠ X.env.locals)
    (h1:it ∈ X.ex ∨ X.s₀.heap.objs.size <= it) (h2:∀ x c,X.env.cells.lookup x = some c -> c ≠ it) (h3:∀ p ∈ X.pn ++ pins,p.1 ≠ it):Inv X pins σ H { s with heap:=h',toks:=t' }:=by
  have nit:∀ b u,H b = some u -> b ≠ it:=fun b u e z => by rw [z,hn] at e; cases e
  refine I.step (g':=s.gens) (d':=s.drawn) (ch:=[it]) (fun b hb => ?_) (fun b o _ _ hc e _ => k b o (fun z => hc (by simp [z])) e) (fun b o _ _ hc e _ => ⟨o.slots,k b o (fun z => hc (by simp [z])) e⟩) (fun _ _ _ _ n => n)
    (fun b o hc e => ⟨o,k b o (fun z => hc (by simp [z])) e⟩) (fun _ _ e => e) (fun _ _ _ e => e) (fun b ps e => ⟨#[],by rw [e]; simp⟩) (fun m hm => ?_) (fun b u e => ?_) I.bare
  . have e:b = it:=by simpa using hb
    subst e
    exact ⟨h1,hL,h2,h3⟩
  . obtain ⟨o,es,ep,ho,r⟩:=hm
    exact ⟨o,es,ep,k _ o (Ne.symm hL) ho,r⟩
  . refine (I.hok b u e).stay (fun c v hc q => k c v ?_ q) (fun _ q => q) fun _ _ q => q
    rcases hc with z | z
    . rw [z]; exact nit b u e
    . exact nit c _ z
theorem Inv.tok (I:Inv X pins σ H s) (t:Nat):Inv X pins σ H { s with toks:=t }:=I.un (h':=s.heap) (t':=t) Un.refl I.hok
theorem Inv.kept {t':Nat} (I:Inv X pins σ H s) (k:∀ b u,s.heap.get? b = some u -> h'.get? b = some u):Inv X pins σ H { s with heap:=h',toks:=t' }:=I.un (Un.kept k) (I.hok.kept k)
theorem Inv.laid {a:Addr} {o:HO} {t':Nat} (I:Inv X pins σ H s) (k:∀ b u,s.heap.get? b = some u -> h'.get? b = some u) (hp:s.heap.objs.size <= a) (new:ObjOk X.prog X.w (upd H a o) h' a o) :
    Inv X pins σ (upd H a o) { s with heap:=h',toks:=t' }:=I.un (Un.laid k hp (I.hok.fresh hp)) (I.hok.laid k hp new)
theorem Inv.write {x e:Addr} {o:HO} {t':Nat} (I:Inv X pins σ H s) (mu:Mut (H x)) (he:e = x ∨ H e = some (.own x)) (k:∀ b u,b ≠ e -> s.heap.get? b = some u -> h'.get? b = some u) (heo:∃ u,h'.get? e = some u)
    (new:ObjOk X.prog X.w (upd H x o) h' x o):Inv X pins σ (upd H x o) { s with heap:=h',toks:=t' }:=I.un (Un.write mu he k heo) (I.hok.write mu he k heo new)
theorem Inv.pins_of {pins':List (Addr×Obj)} (I:Inv X pins σ H s) (h:∀ p ∈ pins',s.heap.get? p.1 = some p.2 /\ H p.1 = none /\ p.1 ≠ X.env.locals /\ p.1 ∉ X.fs /\ ∀ v,p.2.data ≠ .cell v):Inv X pins' σ H s :=
  ⟨I.ok,I.os,I.bare,I.base,I.loc,I.cell,I.free,I.freeC,fun p hp => (List.mem_append.mp hp).elim (fun z => I.pin p (List.mem_append_left _ z)) (h p),I.hok,I.len⟩
theorem nodup_ix {N:List Str} (hN:N.Nodup) {i j:Nat} {x:Str} (a:N[i]? = some x) (b:N[j]? = some x):i = j:=by
  obtain ⟨h1,e1⟩:=List.getElem?_eq_some_iff.mp a
  obtain ⟨h2,e2⟩:=List.getElem?_eq_some_iff.mp b
  exact (List.getElem_inj hN).mp (e1.trans e2.symm)
theorem store_ok2 {M:Model} {A:Around} {E:Value -> Shared -> Prop} {i:Nat} {x:Str} {v:V} {u:Value} {Q:Unit -> Shared -> Prop} (I:Inv X pins σ H s) (hN:X.N.Nodup) (hi:X.N[i]? = some x) (hx:Loc X.env.scope x) (r:RelV v u)
    (h:∀ s',Inv X pins (σ.set i (some v)) H s' -> (∃ a,Heap.SameBut a s.heap s'.heap /\ (a = X.env.locals ∨ X.env.cells.lookup x = some a)) -> Q () s') (hf:X.fn x = true ∨ X.env.scope.names.lookup x = some .local:=by first | exact .inl rfl | exact .inr rfl | assumption):wpAny M A (storeName X.env x u) Q E s:=by
  obtain ⟨m,hn,hl⟩:=id I.loc
  have hcls:(X.env.scope.kind == .class || (X.env.scope.kind == .module && X.env.locals != X.env.globals)) = false:=by rw [I.ok.kind]; rfl
  have hiσ:i < σ.length:=by rw [I.len]; exact (List.getElem?_eq_some_iff.mp hi).1
  have cne:=I.cne
  have tracked:∀ {a:Addr} {h':Heap},(∃ o,s.heap.get? a = some o /\ H a = none) -> Heap.SameBut a s.heap h' -> HOk X.prog X.w H h':=fun {a h'} ha hs b ob e => by
    obtain ⟨_,_,hfree⟩:=ha
    refine (I.hok b ob e).stay (fun c w' hc q => (hs.2 c ?_).trans q) (fun _ q => q) fun _ _ q => q
    rintro rfl
    rcases hc with rfl | hc
    . rw [hfree] at e; cases e
    . rw [hfree] at hc; cases hc
  rcases hx with hk | hk
  . refine wpAny_storeName_local hk hn (fun h' hn' hs => ?_) hcls
    obtain ⟨oL,_,_,hoL,_⟩:=id hn
    refine h _ ⟨I.ok,I.os,I.bare,⟨fun b o e n hb hx => ?_,fun b o e n hb hx => ?_,I.base.free,fun b o e hx => ?_,I.base.tups,I.base.frzs,I.base.tbls⟩,⟨_,hn',fun j y v' e1 e2 e3 => ?_⟩,fun y c e => ?_,I.free,I.freeC,fun p hp => ?_,tracked ⟨oL,hoL,I.free⟩ hs,by simpa using I.len⟩ ⟨_,hs,.inl rfl⟩
    . exact (hs.2 b (Nat.ne_of_lt (Nat.lt_of_lt_of_le (Heap.lt_size e) I.ok.above))).trans (I.base.keep b o e n hb hx)
    . obtain ⟨sl,e1⟩:=I.base.slot b o e n hb hx
      exact ⟨sl,(hs.2 b (Nat.ne_of_lt (Nat.lt_of_lt_of_le (Heap.lt_size e) I.ok.above))).trans e1⟩
    . obtain ⟨o',e1⟩:=I.base.there b o e hx
      exact ⟨o',(hs.2 b (Nat.ne_of_lt (Nat.lt_of_lt_of_le (Heap.lt_size e) I.ok.above))).trans e1⟩
    . by_cases hj:j = i
      . subst hj
        rw [hi] at e1; cases e1
        rw [List.getElem?_set_self hiσ] at e2
        cases e2
        exact ⟨u,r,.inl ⟨hk,by simp⟩⟩
      . rw [List.getElem?_set_ne (Ne.symm hj)] at e2
        obtain ⟨u',r',q⟩:=hl j y v' e1 e2 e3
        refine ⟨u',r',?_⟩
        rcases q with ⟨k,e⟩ | ⟨k,c,e,z⟩
        . refine .inl ⟨k,?_⟩
          have:y ≠ x:=fun e => hj (nodup_ix hN e1 (e ▸ hi))
          simp [this,e]
        . exact .inr ⟨k,c,e,z.sameBut hs (cne y c e)⟩
    . obtain ⟨w',z⟩:=I.cell y c e
      exact ⟨w',z.sameBut hs (cne y c e)⟩
    . obtain ⟨e,n,ne,nf,d⟩:=I.pin p hp
      exact ⟨(hs.2 p.1 ne).trans e,n,ne,nf,d⟩
  . have hfn:X.fn x = true:=by
      rcases hf with z | z
      . exact z
      . rw [z] at hk; cases hk
    obtain ⟨c,hc⟩:=I.ok.has x (.inl hk)
    obtain ⟨w',z⟩:=I.cell x c hc
    refine wpAny_storeName_cell I.ok.kind hk hc z (fun h' hc' hs => ?_)
    obtain ⟨oc,hoc,hocd⟩:=id z
    refine h { s with heap:=h' } ⟨I.ok,I.os,I.bare,⟨fun b o e n hb hx => ?_,fun b o e n hb hx => ?_,I.base.free,fun b o e hx => ?_,I.base.tups,I.base.frzs,I.base.tbls⟩,⟨m,hn.sameBut hs (Ne.symm (cne x c hc)),fun j y v' e1 e2 e3 => ?_⟩,fun y c' e => ?_,I.free,I.freeC,fun p hp => ?_,tracked ⟨oc,hoc,I.freeC x c hc⟩ hs,by simpa using I.len⟩ ⟨c,hs,.inr hc⟩
    . exact (hs.2 b (Nat.ne_of_lt (Nat.lt_of_lt_of_le (Heap.lt_size e) (I.ok.cab x c hfn hc)))).trans (I.base.keep b o e n hb hx)
    . obtain ⟨sl,e1⟩:=I.base.slot b o e n hb hx
      exact ⟨sl,(hs.2 b (Nat.ne_of_lt (Nat.lt_of_lt_of_le (Heap.lt_size e) (I.ok.cab x c hfn hc)))).trans e1⟩
    . obtain ⟨o',e1⟩:=I.base.there b o e hx
      exact ⟨o',(hs.2 b (Nat.ne_of_lt (Nat.lt_of_lt_of_le (Heap.lt_size e) (I.ok.cab x c hfn hc)))).trans e1⟩
    . by_cases hj:j = i
      . subst hj
        rw [hi] at e1; cases e1
        rw [List.getElem?_set_self hiσ] at e2
        cases e2
        exact ⟨u,r,.inr ⟨.inl hk,c,hc,hc'⟩⟩
      . rw [List.getElem?_set_ne (Ne.symm hj)] at e2
        obtain ⟨u',r',q⟩:=hl j y v' e1 e2 e3
        refine ⟨u',r',?_⟩
        rcases q with q | ⟨k,c',e,z'⟩
        . exact .inl q
        . refine .inr ⟨k,c',e,z'.sameBut hs ?_⟩
          rintro rfl
          exact hj (nodup_ix hN e1 (I.ok.inj _ _ _ e hc ▸ hi))
    . by_cases hcc:c' = c
      . subst hcc; exact ⟨_,hc'⟩
      . obtain ⟨w2,z2⟩:=I.cell y c' e
        exact ⟨w2,z2.sameBut hs hcc⟩
    . obtain ⟨e,n,ne,nf,d⟩:=I.pin p hp
      refine ⟨(hs.2 p.1 ?_).trans e,n,ne,nf,d⟩
      intro q
      rw [q,hoc] at e
      have q':oc = p.2:=Option.some.inj e
      exact d w' (by rw [← q']; exact hocd)
theorem store_ok {M:Model} {A:Around} {E:Value -> Shared -> Prop} {i:Nat} {x:Str} {v:V} {u:Value} {Q:Unit -> Shared -> Prop} (I:Inv X pins σ H s) (hN:X.N.Nodup) (hi:X.N[i]? = some x) (hx:Loc X.env.scope x) (r:RelV v u)
    (h:∀ s',Inv X pins (σ.set i (some v)) H s' -> Q () s') (hf:X.fn x = true ∨ X.env.scope.names.lookup x = some .local:=by first | exact .inl rfl | exact .inr rfl | assumption):wpAny M A (storeName X.env x u) Q E s :=
  store_ok2 I hN hi hx r (fun s' I' _ => h s' I') hf
theorem Inv.call' {s':Shared} {ch:List Addr} (I:Inv X pins σ H s) (ho:s'.os = s.os) (u:Un (frs X.stack) ch H H' s.heap s'.heap) (hok:HOk X.prog X.w H' s'.heap) (hg:AllBare s'.gens)
    (hch:∀ b ∈ ch,(b ∈ X.ex ∨ X.s₀.heap.objs.size <= b) /\ b ≠ X.env.locals /\ (∀ x c,X.env.cells.lookup x = some c -> c ≠ b) /\ ∀ p ∈ X.pn ++ pins,p.1 ≠ b):Inv X pins σ H' s':=by
  obtain ⟨h',g',d',t',o'⟩:=s'
  have e:o' = s.os:=ho
  subst e
  exact I.call (g':=g') (t':=t') (d':=d') u hok hg hch
end
noncomputable abbrev XK:=Value -> Option Addr -> Hp -> Prop
noncomputable abbrev St:=List (Option V)
noncomputable abbrev VK:=V -> Hp -> Prop
noncomputable abbrev TE:=St -> Hp -> VK -> Prop
noncomputable abbrev TT:=St -> Hp -> (Bool -> Hp -> Prop) -> Prop
noncomputable abbrev TA:=St -> Hp -> (List V -> Hp -> Prop) -> Prop
structure Ends where
  nx:St -> Hp -> Prop
  rt:VK
  bk:St -> Hp -> Prop:=fun _ _ => False
  ct:St -> Hp -> Prop:=fun _ _ => False
noncomputable abbrev TS:=Ends -> St -> Hp -> Prop
noncomputable def EP (X:Cx) (pins:List (Addr×Obj)) (σ:St) (Q:VK) (u:Value) (s':Shared):Prop:=∃ v H',Inv X pins σ H' s' /\ RelV v u /\ Q v H'
noncomputable def TP (X:Cx) (pins:List (Addr×Obj)) (σ:St) (Q:Bool -> Hp -> Prop) (b:Bool) (s':Shared):Prop:=∃ H',Inv X pins σ H' s' /\ Q b H'
noncomputable def AP (X:Cx) (pins:List (Addr×Obj)) (σ:St) (Q:List V -> Hp -> Prop) (us:List Value) (s':Shared):Prop:=∃ vs H',Inv X pins σ H' s' /\ Vals vs us /\ Q vs H'
noncomputable def SP (X:Cx) (pins:List (Addr×Obj)) (D:Ends) (f:Flow) (s':Shared):Prop :=
  match f with
  | .next => ∃ σ' H',Inv X pins σ' H' s' /\ D.nx σ' H'
  | .brk => ∃ σ' H',Inv X pins σ' H' s' /\ D.bk σ' H'
  | .cont => ∃ σ' H',Inv X pins σ' H' s' /\ D.ct σ' H'
  | .ret u => ∃ v σ' H',Inv X pins σ' H' s' /\ RelV v u /\ D.rt v H'
noncomputable def PE (X:Cx) (e:Expr) (t:TE):Prop :=
  ∀ (pins:List (Addr×Obj)) (s:Shared) (σ:St) (H:Hp) (Q:VK),Inv X pins σ H s -> t σ H Q -> wpAny (model X.prog X.w) X.A (eval e X.env) (EP X pins σ Q) X.xe s
noncomputable def PT (X:Cx) (e:Expr) (t:TT):Prop :=
  ∀ (pins:List (Addr×Obj)) (s:Shared) (σ:St) (H:Hp) (Q:Bool -> Hp -> Prop),Inv X pins σ H s -> t σ H Q -> wpAny (model X.prog X.w) X.A (isTrue e X.env (eval e X.env)) (TP X pins σ Q) X.xe s
noncomputable def PW (X:Cx) (e:Expr) (t:TT):Prop :=
  ∀ (whole:Sem Value) (pins:List (Addr×Obj)) (s:Shared) (σ:St) (H:Hp) (Q:Bool -> Hp -> Prop),Inv X pins σ H s -> t σ H Q -> wpAny (model X.prog X.w) X.A (isTrue e X.env whole) (TP X pins σ Q) X.xe s
theorem PW.pt {X:Cx} {e:Expr} {t:TT} (h:PW X e t):PT X e t:=h _
noncomputable def PA (X:Cx) (es:List Expr) (t:TA):Prop :=
  ∀ (pos:Pos) (pins:List (Addr×Obj)) (s:Shared) (σ:St) (H:Hp) (Q:List V -> Hp -> Prop),Inv X pins σ H s -> t σ H Q -> wpAny (model X.prog X.w) X.A (spliced (backTo pos (starEach es X.env))) (AP X pins σ Q) X.xe s
noncomputable def PS (X:Cx) (st:Stmt) (t:TS):Prop :=
  ∀ (pins:List (Addr×Obj)) (s:Shared) (σ:St) (H:Hp) (D:Ends),Inv X pins σ H s -> t D σ H -> wpAny (model X.prog X.w) X.A (exec st X.env) (SP X pins D) X.xe s
noncomputable def PSs (X:Cx) (st:List Stmt) (t:TS):Prop :=
  ∀ (pins:List (Addr×Obj)) (s:Shared) (σ:St) (H:Hp) (D:Ends),Inv X pins σ H s -> t D σ H -> wpAny (model X.prog X.w) X.A (execs st X.env) (SP X pins D) X.xe s
theorem thn {α:Type} {t:Sem α} {Q Q':α -> Shared -> Prop} {M:Model} {A:Around} {E:Value -> Shared -> Prop} {s:Shared} (h:wpAny M A t Q E s) (hQ:∀ a s,Q a s -> Q' a s):wpAny M A t Q' E s:=wpAny_mono h hQ fun _ _ x => x
end L2
namespace L2
open PySem PySem.Spec PyProof.Rows
section
variable {X:Cx}
noncomputable def tVar (i:Nat):TE:=fun σ H Q => ∃ v,σ[i]? = some (some v) /\ Q v H
noncomputable def tC (v:V):TE:=fun _ H Q => Q v H
theorem pe_var {i:Nat} {x:Str} {pos:Pos} (hN:X.N[i]? = some x) (hv:Vis X.env.scope x) (hd:(x == ("__debug__":Str)) = false:=by decide) (hcd:(x == ("__classdict__":Str)) = false:=by decide):PE X (.Name x pos) (tVar i):=by
  intro pins s σ H Q I h
  obtain ⟨v,e,h⟩:=h
  obtain ⟨m,hn,hl⟩:=I.loc
  obtain ⟨u,r,l⟩:=hl i x v hN e hv
  have fin:EP X pins σ Q u s:=⟨v,H,I,r,h⟩
  rcases l with ⟨hk,hm⟩ | ⟨hk,c,hc,hcell⟩
  . exact wpAny_Name (wpAny_loadName_local I.ok.kind hk hn hm fin) hd
  . rcases hk with hk | hk
    . exact wpAny_Name (wpAny_loadName_cell I.ok.kind hk hc hcell fin) hd
    . exact wpAny_Name (wpAny_loadName_free I.ok.kind hk hc hcell fin hcd) hd
theorem pe_int {i j pos}:PE X (.Constant (.int i) j pos) (tC (.int i)):=fun _ _ _ H _ I h => wpAny_Constant_int ⟨.int i,H,I.tok _,⟨_,rfl⟩,h⟩
theorem pe_bl {b j pos}:PE X (.Constant (.bool b) j pos) (tC (.bl b)):=fun _ _ _ H _ I h => Constant_bool ⟨.bl b,H,I,rfl,h⟩
theorem pe_non {j pos}:PE X (.Constant .none j pos) (tC .non):=fun _ _ _ H _ I h => Constant_none ⟨.non,H,I,rfl,h⟩
theorem pe_str {x j pos}:PE X (.Constant (.str x) j pos) (tC (.str x)):=fun _ _ _ H _ I h => Calls.Constant_str ⟨.str x,H,I.tok _,⟨_,rfl⟩,h⟩
noncomputable def Gl (X:Cx) (x:Str):Prop:=X.env.kindOf x = some .globalImplicit
theorem ld_glob {E:Value -> Shared -> Prop} {pins:List (Addr×Obj)} {s:Shared} {σ:St} {H:Hp} {x:Str} {u:Value} {pos:Pos} {Q:Value -> Shared -> Prop} (I:Inv X pins σ H s) (hg:Gl X x) (hm:X.mg x = some u) (h:Q u s)
    (hd:(x == ("__debug__":Str)) = false:=by decide):wpAny (model X.prog X.w) X.A (eval (.Name x pos) X.env) Q E s :=
  Calls.Name_function_global I.ok.kind hg (Calls.loadGlobal_global (by rw [I.ok.glob]; exact I.mod.glob.keeps I.bk) hm h) hd
theorem ld_blt {E:Value -> Shared -> Prop} {pins:List (Addr×Obj)} {s:Shared} {σ:St} {H:Hp} {x:Str} {u:Value} {pos:Pos} {Q:Value -> Shared -> Prop} (I:Inv X pins σ H s) (hg:Gl X x) (hm:X.mg x = none) (hv:bootBuiltins x = some u) (h:Q u s)
    (hn:x ≠ "__name__":=by decide) (hd:(x == ("__debug__":Str)) = false:=by decide):wpAny (model X.prog X.w) X.A (eval (.Name x pos) X.env) Q E s:=by
  obtain ⟨mb,h1,h2⟩:=I.mod.blt
  exact Calls.Name_function_global I.ok.kind hg (Calls.loadGlobal_builtin (by rw [I.ok.glob]; exact I.mod.glob.keeps I.bk) hm (by rw [I.ok.blt]; exact h1.keeps I.bk) ((h2 x hn).trans hv) h) hd
theorem pe_bltn {x:Str} {v:V} {u:Value} {pos:Pos} (hg:Gl X x) (hm:X.mg x = none) (hv:bootBuiltins x = some u) (r:RelV v u) (hn:x ≠ "__name__":=by decide) (hd:(x == ("__debug__":Str)) = false:=by decide):PE X (.Name x pos) (tC v) :=
  fun _ _ _ H _ I h => ld_blt I hg hm hv ⟨v,H,I,r,h⟩ hn hd
variable {a b:Expr} {ta tb:TE} {pos:Pos}
noncomputable def PC (X:Cx) (op:CmpOp) (a b:Expr) (t:TE):Prop :=
  ∀ (pins:List (Addr×Obj)) (s:Shared) (σ:St) (H:Hp) (Q:VK),Inv X pins σ H s -> t σ H Q ->
    wpAny (model X.prog X.w) X.A (eval a X.env) (fun v s₁ => wpAny (model X.prog X.w) X.A (eval b X.env) (fun u s₂ => wpAny (model X.prog X.w) X.A (compareOp op v u) (EP X pins σ Q) X.xe s₂) X.xe s₁) X.xe s
noncomputable def tB (t:TE):TT:=fun σ H Q => t σ H fun x H1 => ∃ c,x = .bl c /\ Q c H1
theorem pe_cmp {op:CmpOp} {t:TE} (h:PC X op a b t) (h1:behindInMarks op b = false:=by first | exact nobehind _ (by decide) (by decide) | rfl):PE X (.Compare a [op] [b] pos) t:=fun pins s σ H Q I hw => wpAny_Compare1 (h pins s σ H Q I hw) h1
theorem pt_cmp {op:CmpOp} {t:TE} (h:PC X op a b t) (h1:behindInMarks op b = false:=by first | exact nobehind _ (by decide) (by decide) | rfl):PT X (.Compare a [op] [b] pos) (tB t):=by
  intro pins s σ H Q I hw
  refine wpAny_isTrue_Compare1 (thn (h pins s σ H _ I hw) fun v s1 h1 => thn h1 fun u s2 h2 => thn h2 fun c s3 ⟨x,H1,I1,r1,q1⟩ => ?_) h1
  obtain ⟨d,rfl,q⟩:=q1
  cases r1
  exact wpAny_truthy_bool ⟨H1,I1,q⟩
theorem pt_val {e:Expr} {t:TE} (h:PE X e t) (he:∀ whole,isTrue e X.env whole = (do let v ← whole; standAt e.pos; holding [v] (truthy v)):=by intro _; rfl):PT X e (tB t):=by
  intro pins s σ H Q I hw
  refine isTrue_plain (thn (h pins s σ H _ I hw) fun v s1 ⟨x,H1,I1,r1,q1⟩ => ?_) (he _)
  obtain ⟨d,rfl,q⟩:=q1
  cases r1
  exact wpAny_truthy_bool ⟨H1,I1,q⟩
variable {tA tB':TT} {rest:List Expr}
noncomputable def tAnd (t u:TT):TT:=fun σ H Q => t σ H fun c H1 => if c = true then u σ H1 Q else Q false H1
noncomputable def tOr (t u:TT):TT:=fun σ H Q => t σ H fun c H1 => if c = true then Q true H1 else u σ H1 Q
noncomputable def tNot (t:TT):TT:=fun σ H Q => t σ H fun c H1 => Q (!c) H1
theorem pw_and1 (ha:PT X a tA):PW X (.BoolOp .And [a] pos) tA:=by
  intro wh pins s σ H Q I h
  refine isTrue_and (thn (ha pins s σ H Q I h) fun c s1 e => ?_)
  cases c with
  | true => exact isTrue_and_nil e
  | false => exact e
theorem pw_or1 (ha:PT X a tA):PW X (.BoolOp .Or [a] pos) tA:=by
  intro wh pins s σ H Q I h
  refine isTrue_or (thn (ha pins s σ H Q I h) fun c s1 e => ?_)
  cases c with
  | false => exact isTrue_or_nil e
  | true => exact e
theorem pw_and (ha:PT X a tA) (hb:PW X (.BoolOp .And (b :: rest) pos) tB'):PW X (.BoolOp .And (a :: b :: rest) pos) (tAnd tA tB'):=by
  intro wh pins s σ H Q I h
  refine isTrue_and (thn (ha pins s σ H _ I h) fun c s1 ⟨H1,I1,q1⟩ => ?_)
  cases c with
  | true => exact hb wh pins s1 σ H1 Q I1 q1
  | false => exact ⟨H1,I1,q1⟩
theorem pw_or (ha:PT X a tA) (hb:PW X (.BoolOp .Or (b :: rest) pos) tB'):PW X (.BoolOp .Or (a :: b :: rest) pos) (tOr tA tB'):=by
  intro wh pins s σ H Q I h
  refine isTrue_or (thn (ha pins s σ H _ I h) fun c s1 ⟨H1,I1,q1⟩ => ?_)
  cases c with
  | true => exact ⟨H1,I1,q1⟩
  | false => exact hb wh pins s1 σ H1 Q I1 q1
theorem pt_not (ha:PT X a tA):PT X (.UnaryOp .Not a pos) (tNot tA):=by
  intro pins s σ H Q I h
  exact isTrue_not (ha pins s σ H (fun c H1 => Q (!c) H1) I h)
noncomputable def tAndV (ta tb:TE):TE:=fun σ H Q => ta σ H fun x H1 => ∃ c,x = .bl c /\ if c = true then tb σ H1 Q else Q (.bl false) H1
noncomputable def tOrV (ta tb:TE):TE:=fun σ H Q => ta σ H fun x H1 => ∃ c,x = .bl c /\ if c = true then Q (.bl true) H1 else tb σ H1 Q
noncomputable def tNotV (ta:TE):TE:=fun σ H Q => ta σ H fun x H1 => ∃ c,x = .bl c /\ Q (.bl (!c)) H1
theorem pe_one {op} {t:TE} (h:PE X a t):PE X (.BoolOp op [a] pos) t:=fun pins s σ H Q I hw => BoolOp_one (h pins s σ H Q I hw)
theorem pe_and (ha:PE X a ta) (hb:PE X (.BoolOp .And (b :: rest) pos) tb):PE X (.BoolOp .And (a :: b :: rest) pos) (tAndV ta tb):=by
  intro pins s σ H Q I h
  refine BoolOp_and (thn (ha pins s σ H _ I h) fun v s1 ⟨x,H1,I1,r1,q1⟩ => ?_)
  obtain ⟨c,rfl,q1⟩:=q1
  cases r1
  refine wpAny_truthy_bool ?_
  cases c with
  | true => exact hb pins s1 σ H1 Q I1 q1
  | false => exact ⟨.bl false,H1,I1,rfl,q1⟩
theorem pe_or (ha:PE X a ta) (hb:PE X (.BoolOp .Or (b :: rest) pos) tb):PE X (.BoolOp .Or (a :: b :: rest) pos) (tOrV ta tb):=by
  intro pins s σ H Q I h
  refine BoolOp_or (thn (ha pins s σ H _ I h) fun v s1 ⟨x,H1,I1,r1,q1⟩ => ?_)
  obtain ⟨c,rfl,q1⟩:=q1
  cases r1
  refine wpAny_truthy_bool ?_
  cases c with
  | false => exact hb pins s1 σ H1 Q I1 q1
  | true => exact ⟨.bl true,H1,I1,rfl,q1⟩
theorem pe_not (ha:PE X a ta):PE X (.UnaryOp .Not a pos) (tNotV ta):=by
  intro pins s σ H Q I h
  refine UnaryOp_ (thn (ha pins s σ H _ I h) fun v s1 ⟨x,H1,I1,r1,q1⟩ => ?_)
  obtain ⟨c,rfl,q1⟩:=q1
  cases r1
  exact not_of (wpAny_truthy_bool ⟨.bl (!c),H1,I1,rfl,q1⟩)
noncomputable def tIf (t:TT) (ta tb:TE):TE:=fun σ H Q => t σ H fun c H1 => if c = true then ta σ H1 Q else tb σ H1 Q
theorem pe_ifExp {c:Expr} (hc:PT X c tA) (ha:PE X a ta) (hb:PE X b tb):PE X (.IfExp c a b pos) (tIf tA ta tb):=by
  intro pins s σ H Q I h
  refine wpAny_IfExp (thn (hc pins s σ H _ I h) fun d s1 ⟨H1,I1,q1⟩ => ?_)
  cases d with
  | true => exact ha pins s1 σ H1 Q I1 q1
  | false => exact hb pins s1 σ H1 Q I1 q1
end
end L2
namespace L2
open PySem PySem.Spec PyProof.Rows
noncomputable def SqL (K:PySem.W.Frag) (H:Hp) (a:Addr) (xs:List V):Prop :=
  Rd H a (.lst xs) ∨
    ∃ (o:Obj) (its:Array Value) (n:Nat),K.lookup a = some o /\ o.cls = .type "list" /\ o.dict = none /\ o.data = .seq its n /\ its.size <= sizeLine /\ Vals xs its.toList
noncomputable def SqT (K:PySem.W.Frag) (H:Hp) (a:Addr) (xs:List V):Prop :=
  Rd H a (.tup xs) ∨
    ∃ (o:Obj) (its:Array Value) (n:Nat),K.lookup a = some o /\ o.cls = .type "tuple" /\ o.data = .seq its n /\ its.size <= sizeLine /\ Vals xs its.toList
noncomputable def absV:Value -> Option V
  | .none => some .non
  | .bool b => some (.bl b)
  | .int i _ => some (.int i)
  | .str x _ => some (.str x)
  | .bytes b _ => some (.byt b)
  | .float b _ => some (.flt b)
  | .ref a => some (.ref a)
  | .type n => some (.ty n)
  | _ => none
theorem RelV.abs {x:V} {u:Value} (r:RelV x u):absV u = some x:=by
  cases x with
  | non => cases r; rfl
  | bl _ => cases r; rfl
  | int _ => obtain ⟨t,rfl⟩:=r; rfl
  | str _ => obtain ⟨t,rfl⟩:=r; rfl
  | byt _ => obtain ⟨t,rfl⟩:=r; rfl
  | flt _ => obtain ⟨t,rfl⟩:=r; rfl
  | ref _ => cases r; rfl
  | ty _ => cases r; rfl
theorem RelV.inj {x y:V} {u:Value} (r:RelV x u) (q:RelV y u):x = y:=Option.some.inj (r.abs.symm.trans q.abs)
theorem Vals.inj:∀ {xs ys:List V} {us:List Value},Vals xs us -> Vals ys us -> xs = ys
  | _,_,_,.nil,.nil => rfl
  | _,_,_,.cons r t,.cons r' t' => by rw [r.inj r',Vals.inj t t']
section
variable {X:Cx} {pins:List (Addr×Obj)} {σ:St} {H:Hp} {s:Shared} {a:Addr} {xs ys:List V}
theorem SqL.of {K:PySem.W.Frag} (h:H a = some (.lst xs)):SqL K H a xs:=.inl (.inl h)
theorem SqT.of {K:PySem.W.Frag} (h:H a = some (.tup xs)):SqT K H a xs:=.inl (.inl h)
theorem Inv.list (I:Inv X pins σ H s) (h:SqL X.K H a xs):∃ its:List Value,Vals xs its /\ PlainL s.heap a its.toArray /\ xs.length <= sizeLine:=by
  rcases h with h | ⟨o,its,n,hk,hc,hd,hs,hz,r⟩
  . obtain ⟨z,its,n,r,e⟩:=h.ok I.hok
    exact ⟨its,r,⟨_,n,e,rfl,rfl,rfl⟩,z⟩
  . refine ⟨its.toList,r,⟨o,n,I.kIn a o hk,hc,hd,by simpa using hs⟩,?_⟩
    have e:=r.length
    simp only [Array.length_toList] at e
    omega
theorem Inv.tuple (I:Inv X pins σ H s) (h:SqT X.K H a xs):∃ its:List Value,Vals xs its /\ IsTup s.heap a its.toArray /\ xs.length <= sizeLine:=by
  rcases h with h | ⟨o,its,n,hk,hc,hs,hz,r⟩
  . obtain ⟨z,its,r,p⟩:=h.ok I.hok
    exact ⟨its,r,p,z⟩
  . refine ⟨its.toList,r,⟨o,I.kIn a o hk,hc,n,by simpa using hs⟩,?_⟩
    have e:=r.length
    simp only [Array.length_toList] at e
    omega
theorem Inv.list_inj (I:Inv X pins σ H s) (h:SqL X.K H a xs) (h':SqL X.K H a ys):xs = ys:=by
  obtain ⟨its,r,⟨o,n,e,_,_,d⟩,_⟩:=I.list h
  obtain ⟨its',r',⟨o',n',e',_,_,d'⟩,_⟩:=I.list h'
  rw [e] at e'; cases e'
  rw [d] at d'
  injection d' with d1 _
  have:its = its':=by simpa using congrArg Array.toList d1
  subst this
  exact r.inj r'
end
noncomputable abbrev Cx.wish (X:Cx) (E:Value -> Shared -> Prop):Cx:={ X with xe:=E }
noncomputable abbrev Cx.nox (X:Cx):Cx:=X.wish fun _ _ => False
theorem Cx.Ok.wish {X:Cx} (ok:X.Ok) (E:Value -> Shared -> Prop):(X.wish E).Ok :=
  ⟨ok.mod,ok.kind,ok.glob,ok.blt,ok.above,ok.inj,ok.has,ok.cab,ok.hd,ok.frames,ok.stk,ok.exf,ok.bs,ok.bsz,ok.noex,ok.exfs,ok.funs,ok.frf⟩
theorem Cx.Ok.unwish {X:Cx} {E:Value -> Shared -> Prop} (ok:(X.wish E).Ok):X.Ok :=
  ⟨ok.mod,ok.kind,ok.glob,ok.blt,ok.above,ok.inj,ok.has,ok.cab,ok.hd,ok.frames,ok.stk,ok.exf,ok.bs,ok.bsz,ok.noex,ok.exfs,ok.funs,ok.frf⟩
section
variable {X:Cx} {pins:List (Addr×Obj)} {σ:St} {H:Hp} {s:Shared} {E:Value -> Shared -> Prop}
theorem Inv.wish (I:Inv X pins σ H s) (E:Value -> Shared -> Prop):Inv (X.wish E) pins σ H s:=⟨I.ok.wish E,I.os,I.bare,I.base,I.loc,I.cell,I.free,I.freeC,I.pin,I.hok,I.len⟩
theorem Inv.unwish (I:Inv (X.wish E) pins σ H s):Inv X pins σ H s:=⟨I.ok.unwish,I.os,I.bare,I.base,I.loc,I.cell,I.free,I.freeC,I.pin,I.hok,I.len⟩
theorem SP.unwish {D:Ends} {f:Flow} {s':Shared} (h:SP (X.wish E) pins D f s'):SP X pins D f s':=by
  cases f with
  | next => obtain ⟨σ',H',I,q⟩:=h; exact ⟨σ',H',I.unwish,q⟩
  | brk => obtain ⟨σ',H',I,q⟩:=h; exact ⟨σ',H',I.unwish,q⟩
  | cont => obtain ⟨σ',H',I,q⟩:=h; exact ⟨σ',H',I.unwish,q⟩
  | ret u => obtain ⟨v,σ',H',I,r,q⟩:=h; exact ⟨v,σ',H',I.unwish,r,q⟩
theorem PSs.nox {st:List Stmt} {t:TS} (h:PSs X.nox st t):PSs X st t:=fun pins s σ H D I hw =>
  wpAny_mono (h pins s σ H D (I.wish _) hw) (fun _ _ q => q.unwish) fun _ _ z => False.elim z
end
section
variable {X:Cx} {st:Stmt} {rest:List Stmt} {t u:TS} {e:Expr} {te:TE} {pos:Pos}
noncomputable def tNext:TS:=fun D σ H => D.nx σ H
noncomputable def tSeq (t u:TS):TS:=fun D σ H => t { D with nx:=u D } σ H
theorem pss_nil:PSs X [] tNext:=fun _ _ σ H _ I h => wpAny_execs_nil ⟨σ,H,I,h⟩
theorem pss_cons (h1:PS X st t) (h2:PSs X rest u):PSs X (st :: rest) (tSeq t u):=by
  intro pins s σ H D I h
  refine wpAny_execs_cons (thn (h1 pins s σ H { D with nx:=u D } I h) fun f s1 q => ?_)
  cases f with
  | next =>
    obtain ⟨σ',H',I',q⟩:=q
    exact h2 pins s1 σ' H' D I' q
  | ret v => exact q
  | brk => exact q
  | cont => exact q
theorem pss_one (h1:PS X st t):PSs X [st] t:=by
  intro pins s σ H D I h
  refine wpAny_execs_cons (thn (h1 pins s σ H D I h) fun f s1 q => ?_)
  cases f with
  | next => exact wpAny_execs_nil q
  | ret v => exact q
  | brk => exact q
  | cont => exact q
noncomputable def tCont:TS:=fun D σ H => D.ct σ H
theorem ps_continue:PS X (.Continue pos) tCont:=fun _ _ σ H _ I h => wpAny_Continue ⟨σ,H,I,h⟩
theorem Inv.quiet {pins:List (Addr×Obj)} {σ:St} {H:Hp} {s:Shared} (I:Inv X pins σ H s):interactive X.env = false:=by simp [interactive,I.ok.kind]
noncomputable def tDrop (te:TE):TS:=fun D σ H => te σ H fun _ H1 => D.nx σ H1
theorem ps_expr (he:PE X e te) (hs:swapsWith e none pos.line X.env = pure false:=by rfl):PS X (.Expr e pos) (tDrop te):=by
  intro pins s σ H D I h
  exact wpAny_Expr_any (thn (he pins s σ H _ I h) fun v s1 ⟨x,H1,I1,r1,q1⟩ => ⟨σ,H1,I1,q1⟩) I.quiet hs
noncomputable def tRet (te:TE):TS:=fun D σ H => te σ H D.rt
theorem ps_ret (he:PE X e te):PS X (.Return (some e) pos) (tRet te):=by
  intro pins s σ H D I h
  exact wpAny_Return_some (thn (he pins s σ H _ I h) fun v s1 ⟨x,H1,I1,r1,q1⟩ => ⟨x,σ,H1,I1,r1,q1⟩)
noncomputable def tIfS (c:TT) (t u:TS):TS:=fun D σ H => c σ H fun b H1 => if b = true then t D σ H1 else u D σ H1
theorem ps_if {c:Expr} {a b:List Stmt} {tc:TT} (hc:PT X c tc) (ha:PSs X a t) (hb:PSs X b u):PS X (.If c a b pos) (tIfS tc t u):=by
  intro pins s σ H D I h
  refine wpAny_If (thn (hc pins s σ H _ I h) fun d s1 ⟨H1,I1,q1⟩ => ?_)
  cases d with
  | true => exact ha pins s1 σ H1 D I1 q1
  | false => exact hb pins s1 σ H1 D I1 q1
noncomputable def tNever:TS:=fun _ _ _ => False
theorem ps_never:PS X st tNever:=fun _ _ _ _ _ _ h => h.elim
end
noncomputable abbrev TG:=V -> St -> Hp -> (St -> Hp -> Prop) -> Prop
noncomputable abbrev TGs:=List V -> St -> Hp -> (St -> Hp -> Prop) -> Prop
noncomputable def PG (X:Cx) (target:Expr) (t:TG):Prop :=
  ∀ (pins:List (Addr×Obj)) (s:Shared) (σ:St) (H:Hp) (v:V) (u:Value) (Q:St -> Hp -> Prop),Inv X pins σ H s -> RelV v u -> t v σ H Q ->
    wpAny (model X.prog X.w) X.A (assign target X.env u) (fun _ s' => ∃ σ' H',Inv X pins σ' H' s' /\ Q σ' H') X.xe s
noncomputable def PGs (X:Cx) (ts:List Expr) (t:TGs):Prop :=
  ∀ (pins:List (Addr×Obj)) (s:Shared) (σ:St) (H:Hp) (vs:List V) (us:List Value) (Q:St -> Hp -> Prop),Inv X pins σ H s -> Vals vs us -> t vs σ H Q ->
    wpAny (model X.prog X.w) X.A (assignInOrder ((assignEach ts X.env).map (·.2)) us) (fun _ s' => ∃ σ' H',Inv X pins σ' H' s' /\ Q σ' H') X.xe s
section
variable {X:Cx} {pos:Pos}
noncomputable def gName (i:Nat):TG:=fun v σ H Q => Q (σ.set i (some v)) H
theorem pg_name {i:Nat} {x:Str} (hN:X.N.Nodup) (hi:X.N[i]? = some x) (hx:Loc X.env.scope x) (hf:X.fn x = true ∨ X.env.scope.names.lookup x = some .local:=by first | exact .inl rfl | exact .inr rfl | assumption):PG X (.Name x pos) (gName i):=by
  intro pins s σ H v u Q I r h
  exact wpAny_assign_Name (store_ok I hN hi hx r (fun s' I' => ⟨_,H,I',h⟩) hf)
noncomputable def gNil:TGs:=fun vs σ H Q => vs = [] /\ Q σ H
noncomputable def gCons (t:TG) (u:TGs):TGs:=fun vs σ H Q => ∃ v r,vs = v :: r /\ t v σ H fun σ' H' => u r σ' H' Q
theorem pgs_nil:PGs X [] gNil:=by
  intro pins s σ H vs us Q I r h
  obtain ⟨e,h⟩:=h
  subst e
  cases r
  exact assignInOrder_nil ⟨σ,H,I,h⟩
theorem pgs_cons {e:Expr} {es:List Expr} {t:TG} {u:TGs} (h1:PG X e t) (h2:PGs X es u)
    (hs:(assignEach (e :: es) X.env).map (·.2) = assign e X.env :: (assignEach es X.env).map (·.2):=by rfl):PGs X (e :: es) (gCons t u):=by
  intro pins s σ H vs us Q I r h
  obtain ⟨v,vr,e1,h⟩:=h
  subst e1
  cases r with
  | cons r rr =>
    rw [hs]
    refine assignInOrder_cons (thn (h1 pins s σ H _ _ _ I r h) fun _ s1 ⟨σ1,H1,I1,q1⟩ => ?_)
    exact h2 pins s1 σ1 H1 _ _ Q I1 rr q1
noncomputable def gTup (K:PySem.W.Frag) (n:Nat) (t:TGs):TG:=fun v σ H Q => ∃ a xs,v = .ref a /\ SqT K H a xs /\ xs.length = n /\ t xs σ H Q
theorem pg_tup {es:List Expr} {k:Nat} {t:TGs} {n:Nat} (hc:X.calm = true) (h:PGs X es t)
    (hn:(assignEach es X.env).length = n:=by rfl) (hst:(assignEach es X.env).findIdx? (·.1) = none:=by rfl):PG X (.Tuple es k pos) (gTup X.K n t):=by
  intro pins s σ H v u Q I r hw
  obtain ⟨a,xs,e1,hq,hl,hw⟩:=hw
  subst e1
  cases r
  obtain ⟨its,rv,ht,hz⟩:=I.tuple hq
  refine assign_Tuple_tuple (I.ok.hd hc) ht (by simp [hn,← hl,rv.length]) hst fun h' hx => ?_
  have I1:Inv X pins σ H { s with heap:=h' }:=I.kept (t':=s.toks) fun b o e => hx b o (Nat.ne_of_lt (Heap.lt_size e)) e
  exact h pins _ σ H xs _ Q I1 (by simpa using rv) hw
noncomputable def tAsg (te:TE) (g:TG):TS:=fun D σ H => te σ H fun x H1 => g x σ H1 D.nx
theorem ps_asg {tg e:Expr} {te:TE} {g:TG} (he:PE X e te) (hg:PG X tg g) (hs:swapsWithSole [tg] e pos.line X.env = pure false:=by rfl) (hw:swappedStores [tg] e X.env = pure none:=by rfl)
    (h1:(assignEach [tg] X.env).map (·.2) = [assign tg X.env]:=by rfl):PS X (.Assign [tg] e pos) (tAsg te g):=by
  intro pins s σ H D I h
  refine wpAny_Assign_stores (thn (he pins s σ H _ I h) fun v s1 ⟨x,H1,I1,r1,q1⟩ => ?_) hs hw
  rw [h1]
  exact thn (hg pins s1 σ H1 x v _ I1 r1 q1) fun _ s2 q => q
theorem ps_set {i:Nat} {x:Str} {e:Expr} {te:TE} {pos':Pos} (hN:X.N.Nodup) (hi:X.N[i]? = some x) (hx:Loc X.env.scope x) (he:PE X e te) (hs:swapsWith e (some (.Name x pos')) pos.line X.env = pure false:=by rfl) (hf:X.fn x = true ∨ X.env.scope.names.lookup x = some .local:=by first | exact .inl rfl | exact .inr rfl | assumption) :
    PS X (.Assign [.Name x pos'] e pos) (tAsg te (gName i)):=by
  intro pins s σ H D I h
  refine wpAny_Assign_Name (thn (he pins s σ H _ I h) fun v s1 ⟨y,H1,I1,r1,q1⟩ => ?_) hs
  exact store_ok I1 hN hi hx r1 (fun s2 I2 => ⟨_,H1,I2,q1⟩) hf
noncomputable def tPar (i j:Nat) (ta:TA):TS:=fun D σ H => ta σ H fun vs H1 => ∃ v w,vs = [v,w] /\ D.nx ((σ.set i (some v)).set j (some w)) H1
theorem ps_par {i j:Nat} {x y:Str} {a b:Expr} {ta:TA} {px py pt:Pos} {kt k2 pt2} (hc:X.calm = true) (hN:X.N.Nodup) (hi:X.N[i]? = some x) (hj:X.N[j]? = some y) (hij:i ≠ j)
    (hx:X.env.scope.names.lookup x = some .local) (hy:X.env.scope.names.lookup y = some .local) (ha:PA X [a,b] ta)
    (hw:swappedStores [.Tuple [.Name x px,.Name y py] kt pt] (.Tuple [a,b] k2 pt2) X.env = pure (some [x,y]))
    (hs:swapsWithSole [.Tuple [.Name x px,.Name y py] kt pt] (.Tuple [a,b] k2 pt2) pos.line X.env = pure false:=by rfl) :
    PS X (.Assign [.Tuple [.Name x px,.Name y py] kt pt] (.Tuple [a,b] k2 pt2) pos) (tPar i j ta):=by
  intro pins s σ H D I h
  rw [exec_Assign_arm]
  refine wpAny_bind (wpAny_standAt ?_)
  rw [hs]
  refine wpAny_bind (wpAny_pure ?_)
  rw [if_neg (by decide)]
  refine wpAny_bind (Tuple_ (thn (ha _ pins s σ H _ I h) fun us s1 ⟨vs,H1,I1,r1,q1⟩ => ?_))
  obtain ⟨v,w,e1,q1⟩:=q1
  subst e1
  obtain ⟨u1,u2,rfl,rv,rw'⟩:∃ u1 u2,us = [u1,u2] /\ RelV v u1 /\ RelV w u2:=by
    cases r1 with
    | cons p q =>
      cases q with
      | cons p' q' =>
        cases q'
        exact ⟨_,_,rfl,p,p'⟩
  refine wpAny_newObj_type ?_ (by show 2 <= sizeLine; decide)
  have I2:Inv X pins σ H1 { s1 with heap:=s1.heap.push { cls:=.type "tuple",data:=.seq [u1,u2].toArray } }:=I1.kept (t':=s1.toks) fun b o e => Heap.get?_push_of_some _ e
  rw [hw]
  refine wpAny_bind (wpAny_pure ?_)
  show wpAny (model X.prog X.w) X.A (do rule "assign.swapped-stores"; let items ← unpackItems (.ref s1.heap.objs.size) 2 none; assignInOrder [fun v => bindName X.env y v,fun v => bindName X.env x v] items.reverse; pure Flow.next) _ _ _
  refine wpAny_bind (wpAny_rule (wpAny_bind (unpackItems_tuple (items:=#[u1,u2]) (I.ok.hd hc) (IsTup.new s1.heap _) fun h' hx' => ?_)))
  have I3:=I2.kept (h':=h') (t':=s1.toks) fun b o e => hx' b o (Nat.ne_of_lt (Heap.lt_size e)) e
  show wpAny _ _ (assignInOrder [fun v => bindName X.env y v,fun v => bindName X.env x v] [u2,u1] >>= fun _ => pure Flow.next) _ _ _
  refine wpAny_bind (assignInOrder_cons (wpAny_bindName (store_ok I3 hN hj (.inl hy) rw' (fun s2 I4 => ?_) (.inr hy))))
  refine assignInOrder_cons (wpAny_bindName (store_ok I4 hN hi (.inl hx) rv (fun s3 I5 => assignInOrder_nil (wpAny_pure ?_)) (.inr hx)))
  rw [List.set_comm _ _ (Ne.symm hij)] at I5
  exact ⟨_,H1,I5,q1⟩
end
section
variable {X:Cx} {pos:Pos}
noncomputable def tWhile (c:TT) (tb:TS):TS:=fun D σ H => ∃ W:Nat -> St -> Hp -> Prop,(∃ m,W m σ H) /\ ∀ m σ H,W m σ H ->
  c σ H fun b H1 => if b = true then ∃ N:St -> Hp -> Prop,(∀ σ' H',N σ' H' -> ∃ m',m' < m /\ W m' σ' H') /\ tb { D with nx:=N,ct:=N,bk:=D.nx } σ H1 else D.nx σ H1
theorem ps_while {c:Expr} {body:List Stmt} {tc:TT} {tb:TS} (hp:PassesOwn (model X.prog X.w) X.A X.env X.xe) (hc:PT X c tc) (hb:PSs X body tb):PS X (.While c body [] pos) (tWhile tc tb):=by
  intro pins s σ H D I h
  obtain ⟨W,⟨m0,w0⟩,turn⟩:=h
  refine wpAny_While (codeAny_whileLoop (fun n s' => ∃ σ' H',Inv X pins σ' H' s' /\ W n σ' H') ?_ m0 ⟨σ,H,I,w0⟩)
  rintro n s1 ⟨σ1,H1,I1,w1⟩
  refine wpAny_passesOwn hp (thn (hc pins s1 σ1 H1 _ I1 (turn n σ1 H1 w1)) fun b s2 ⟨H2,I2,q2⟩ => ?_)
  cases b with
  | true =>
    obtain ⟨N,hN,q2⟩:=q2
    rw [if_pos rfl]
    refine wpAny_passesOwn hp (thn (hb pins s2 σ1 H2 _ I2 q2) fun f s3 q3 => ?_)
    cases f with
    | next =>
      obtain ⟨σ3,H3,I3,n3⟩:=q3
      obtain ⟨m',hm,w3⟩:=hN σ3 H3 n3
      exact ⟨m',hm,σ3,H3,I3,w3⟩
    | cont =>
      obtain ⟨σ3,H3,I3,n3⟩:=q3
      obtain ⟨m',hm,w3⟩:=hN σ3 H3 n3
      exact ⟨m',hm,σ3,H3,I3,w3⟩
    | brk => exact q3
    | ret v => exact q3
  | false =>
    rw [if_neg Bool.false_ne_true]
    exact wpAny_execs_nil ⟨σ1,H2,I2,q2⟩
end
structure It where
  go:Nat -> Hp -> Prop
  yld:Nat -> Hp -> V -> Hp -> Prop
  stop:Nat -> Hp -> Prop
noncomputable def FpOk (X:Cx) (pins:List (Addr×Obj)) (H:Hp) (b:Addr):Prop :=
  H b = none /\ b ≠ X.env.locals /\ b ∉ X.fs /\ (b ∈ X.ex ∨ X.s₀.heap.objs.size <= b) /\ (∀ x c,X.env.cells.lookup x = some c -> c ≠ b) /\ ∀ p ∈ X.pn ++ pins,p.1 ≠ b
theorem Inv.fpOk {X:Cx} {pins:List (Addr×Obj)} {σ:St} {H H':Hp} {s:Shared} {b:Addr} (I:Inv X pins σ H s) (hb:s.heap.objs.size <= b) (hn:H' b = none):FpOk X pins H' b:=by
  refine ⟨hn,Nat.ne_of_gt (Nat.lt_of_lt_of_le I.lt hb),I.nofs hb,.inr (Nat.le_trans I.sz hb),fun x c e z => ?_,fun p hp z => ?_⟩
  . obtain ⟨v,q⟩:=I.cell x c e
    exact absurd (Nat.lt_of_lt_of_le q.lt (by rw [z]; exact hb)) (Nat.lt_irrefl _)
  . exact absurd (Nat.lt_of_lt_of_le (Heap.lt_size (I.pin p hp).1) (by rw [z]; exact hb)) (Nat.lt_irrefl _)
structure Turn (P:Program) (w:World) (K:PySem.W.Frag) (tg:Expr) (J:It) (fp:List Addr) (it:Addr) (tn:Nat -> Heap -> Prop):Prop where
  mem:it ∈ fp
  obj:∀ i h,tn i h -> ∀ b ∈ fp,∃ o,h.get? b = some o /\ ∀ v,o.data ≠ .cell v
  keep:∀ i h h',tn i h -> (∀ b ∈ fp,∀ o,h.get? b = some o -> h'.get? b = some o) -> tn i h'
  item:∀ (X:Cx),X.prog = P -> X.w = w -> X.K = K -> X.calm = true -> ∀ (i:Nat) (pins:List (Addr×Obj)) (s:Shared) (σ:St) (H:Hp) (E:Value -> Shared -> Prop),Inv X pins σ H s -> (∀ b ∈ fp,FpOk X pins H b) -> tn i s.heap -> J.go i H ->
    wpAny (model P w) X.A (pyNext (.ref it)) (fun r s1 => ∃ u,r = some u /\
      wpAny (model P w) X.A (letOwnedTupleGo tg (.ref it) u) (fun _ s2 => ∃ x H',Inv X pins σ H' s2 /\ RelV x u /\ J.yld i H x H' /\ tn (i + 1) s2.heap /\ ∀ b ∈ fp,H' b = none) E s1) E s
  done:∀ (X:Cx),X.prog = P -> X.w = w -> X.K = K -> X.calm = true -> ∀ (i:Nat) (pins:List (Addr×Obj)) (s:Shared) (σ:St) (H:Hp) (E:Value -> Shared -> Prop),Inv X pins σ H s -> (∀ b ∈ fp,FpOk X pins H b) -> tn i s.heap -> J.stop i H ->
    wpAny (model P w) X.A (pyNext (.ref it)) (fun r s1 => r = none /\ Inv X pins σ H s1) E s
  self:∀ (A:Around) (i:Nat) (s:Shared) (Q:Value -> Shared -> Prop) (E:Value -> Shared -> Prop),tn i s.heap -> Q (.ref it) s -> wpAny (model P w) A (pyIter (.ref it)) Q E s
noncomputable abbrev TI:=St -> Hp -> (It -> Hp -> Prop) -> Prop
noncomputable def PIE (X:Cx) (pins:List (Addr×Obj)) (σ:St) (tg:Expr) (R:It -> Hp -> Prop) (itv:Value) (s2:Shared):Prop :=
  ∃ (it:Addr) (fp:List Addr) (tn:Nat -> Heap -> Prop) (J:It) (H':Hp),itv = .ref it /\ Inv X pins σ H' s2 /\ Turn X.prog X.w X.K tg J fp it tn /\ tn 0 s2.heap /\ (∀ b ∈ fp,FpOk X pins H' b) /\ R J H'
noncomputable def PI (X:Cx) (tg iter:Expr) (wi:TI):Prop :=
  ∀ (pins:List (Addr×Obj)) (s:Shared) (σ:St) (H:Hp) (R:It -> Hp -> Prop),Inv X pins σ H s -> wi σ H R ->
    wpAny (model X.prog X.w) X.A (eval iter X.env) (fun v s1 => wpAny (model X.prog X.w) X.A (pyIter v) (PIE X pins σ tg R) X.xe s1) X.xe s
theorem go_of {M:Model} {A:Around} {E:Value -> Shared -> Prop} {s:Shared} {tg:Expr} {it:Addr} {u:Value} {o:Obj} {n:String} {vs:Array Value} {Q:Unit -> Shared -> Prop} (ho:s.heap.get? it = some o) (hc:o.cls = .type n) (hd:o.data = .fields vs)
    (hn:["enumerate","zip","dict_itemiterator","dict_reverseitemiterator","odict_iterator","itertools.zip_longest","itertools.pairwise"].contains n = false) (hQ:Q () s):wpAny M A (letOwnedTupleGo tg (.ref it) u) Q E s:=by
  unfold letOwnedTupleGo
  cases tg <;> first
    | exact wpAny_pure hQ
    | (cases u <;> first
        | exact wpAny_pure hQ
        | (refine wpAny_bind (wpAny_load ho ?_)
           rw [hc,hd]
           show wpAny M A (if (["enumerate","zip","dict_itemiterator","dict_reverseitemiterator","odict_iterator","itertools.zip_longest","itertools.pairwise"].contains n && vs[0]? == some (rawInt _)) = true then _ else _) Q E s
           rw [if_neg (by intro h; rw [hn,Bool.false_and] at h; cases h)]
           exact wpAny_pure hQ))
noncomputable def Itl (K:PySem.W.Frag) (a:Addr):It :=
  ⟨fun i H => ∃ xs x,SqL K H a xs /\ xs[i]? = some x,fun i H x H' => H' = H /\ ∀ xs,SqL K H a xs -> xs[i]? = some x,fun i H => ∃ xs,SqL K H a xs /\ xs.length <= i⟩
noncomputable def Itr (lo:Int) (n:Nat):It:=⟨fun i _ => i < n,fun i H x H' => H' = H /\ x = .int (lo + i),fun i _ => n <= i⟩
theorem turn_list {P:Program} {w:World} {K:PySem.W.Frag} {tg:Expr} (a it:Addr):Turn P w K tg (Itl K a) [it] it (fun i h => h.IsListIter it a i) where
  mem:=by simp
  obj:=fun i h st b hb => by
    have e:b = it:=by simpa using hb
    subst e
    obtain ⟨o,e,c,d⟩:=st
    exact ⟨o,e,fun v z => by rw [d] at z; cases z⟩
  keep:=fun i h h' st k => st.at fun o e => k it (by simp) o e
  item:=by
    intro X hP hw hK hc i pins s σ H E I hf st hg
    subst hP hw hK
    obtain ⟨xs,x,hq,hx⟩:=hg
    obtain ⟨its,rv,p,hz⟩:=I.list hq
    obtain ⟨u,hu,ru⟩:=rv.get hx
    obtain ⟨f0,f1,f2,f3,f4,f5⟩:=hf it (by simp)
    refine wpAny_pyNext_list_item st p.isList (x:=u) (by simpa using hu) fun h' st' sb => ?_
    have I1:Inv X pins σ H { s with heap:=h' }:=I.turned (t':=s.toks) (fun b o hb e => (sb.2 b hb).trans e) f0 f1 f3 f4 f5
    obtain ⟨o,e,c,d⟩:=id st'
    exact ⟨u,rfl,go_of (s:={ s with heap:=h' }) e c d (by decide) ⟨x,H,I1,ru,⟨rfl,fun ys hy => by rw [I.list_inj hy hq]; exact hx⟩,st',fun b hb => (hf b hb).1⟩⟩
  done:=by
    intro X hP hw hK hc i pins s σ H E I hf st hg
    subst hP hw hK
    obtain ⟨xs,hq,hx⟩:=hg
    obtain ⟨its,rv,p,hz⟩:=I.list hq
    obtain ⟨f0,f1,f2,f3,f4,f5⟩:=hf it (by simp)
    have hl:=rv.length
    exact wpAny_pyNext_list_end (I.ok.hd hc) st p.isList (by simp; omega) fun h' eb => ⟨rfl,I.turned (t':=s.toks) (fun b o hb e => eb b o hb e) f0 f1 f3 f4 f5⟩
  self:=fun _ _ _ _ _ st h => wpAny_pyIter_listiter st h
theorem turn_range {P:Program} {w:World} {K:PySem.W.Frag} {tg:Expr} (it:Addr) (lo:Int) (n:Nat):Turn P w K tg (Itr lo n) [it] it (fun i h => IsRangeIter h it (lo + (i:Nat) * 1) ((n:Int) - (i:Nat)) 1) where
  mem:=by simp
  obj:=fun i h st b hb => by
    have e:b = it:=by simpa using hb
    subst e
    exact ⟨_,st,fun v z => by
      have z':Data.fields _ = Data.cell v:=z
      cases z'⟩
  keep:=fun i h h' st k => k it (by simp) _ st
  item:=by
    intro X hP hw hK hc i pins s σ H E I hf st hg
    subst hP hw hK
    obtain ⟨f0,f1,f2,f3,f4,f5⟩:=hf it (by simp)
    have W:=Walks.range (prog:=X.prog) (w:=X.w) (I.ok.hd hc) it lo 1 n
    refine W.item i s _ _ hg st fun v h' tk hv st' kk => ?_
    obtain ⟨t,rfl⟩:=hv
    have I1:Inv X pins σ H { s with heap:=h',toks:=tk }:=I.turned (fun b o hb e => kk b o (by simpa using hb) e) f0 f1 f3 f4 f5
    refine ⟨_,rfl,go_of (s:={ s with heap:=h',toks:=tk }) (n:="range_iterator") st' rfl rfl (by decide) ⟨.int (lo + i),H,I1,⟨t,?_⟩,⟨rfl,rfl⟩,st',fun b hb => (hf b hb).1⟩⟩
    rw [Int.mul_one]
  done:=by
    intro X hP hw hK hc i pins s σ H E I hf st hg
    subst hP hw hK
    obtain ⟨f0,f1,f2,f3,f4,f5⟩:=hf it (by simp)
    exact wpAny_pyNext_range_end (I.ok.hd hc) st (by have:n <= i:=hg; omega) fun h' eb => ⟨rfl,I.turned (t':=s.toks) (fun b o hb e => eb b o hb e) f0 f1 f3 f4 f5⟩
  self:=fun _ _ _ _ _ st h => wpAny_pyIter_rangeiter st h
end L2
namespace L2
open PySem PySem.Spec PyProof.Rows
section
variable {X:Cx} {tg:Expr}
noncomputable def iList (K:PySem.W.Frag) (tl:TE):TI:=fun σ H R => tl σ H fun x H1 => ∃ a,x = .ref a /\ (∃ xs,SqL K H1 a xs) /\ R (Itl K a) H1
theorem pi_list {l:Expr} {tl:TE} (hl:PE X l tl):PI X tg l (iList X.K tl):=by
  intro pins s σ H R I h
  refine thn (hl pins s σ H _ I h) fun v s1 ⟨x,H1,I1,r1,q1⟩ => ?_
  obtain ⟨a,e,⟨xs,hq⟩,q⟩:=q1
  subst e
  cases r1
  obtain ⟨its,rv,p,hz⟩:=I1.list hq
  refine wpAny_pyIter_list p.isList ?_
  refine ⟨s1.heap.objs.size,[s1.heap.objs.size],_,_,H1,rfl,I1.kept (t':=s1.toks) fun b o e => Heap.get?_push_of_some _ e,turn_list a _,⟨_,Heap.get?_push_size _ rfl,rfl,rfl⟩,fun b hb => ?_,q⟩
  have e:b = s1.heap.objs.size:=by simpa using hb
  subst e
  exact I1.fpOk (Nat.le_refl _) (I1.hok.fresh (Nat.le_refl _))
theorem range_it {pins:List (Addr×Obj)} {σ:St} {H:Hp} {s:Shared} {R:It -> Hp -> Prop} {E:Value -> Shared -> Prop} {lo hi:Int} {t u v:Tok} {tk:Nat} (I:Inv X pins σ H s) (h1:-(2 ^ 62) <= lo) (h2:lo < 2 ^ 62) (h3:-(2 ^ 62) <= hi) (h4:hi < 2 ^ 62)
    (q:R (Itr lo (hi - lo).toNat) H):wpAny (model X.prog X.w) X.A (pyIter (.ref s.heap.objs.size)) (PIE X pins σ tg R) E { s with heap:=s.heap.push { cls:=.type "range",data:=.fields #[.int lo t,.int hi u,.int 1 v] },toks:=tk }:=by
  refine wpAny_pyIter_range (IsRange.new ..) (small_one h1 h2 h3 h4) ?_
  have I1:Inv X pins σ H { s with heap:=s.heap.push { cls:=.type "range",data:=.fields #[.int lo t,.int hi u,.int 1 v] },toks:=tk }:=I.kept fun b o e => Heap.get?_push_of_some _ e
  refine ⟨(s.heap.push { cls:=.type "range",data:=.fields #[.int lo t,.int hi u,.int 1 v] }).objs.size,[(s.heap.push { cls:=.type "range",data:=.fields #[.int lo t,.int hi u,.int 1 v] }).objs.size],_,_,H,rfl,
    I1.kept (t':=tk) fun b o e => Heap.get?_push_of_some _ e,turn_range _ lo (hi - lo).toNat,?_,fun b hb => ?_,q⟩
  . have e1:lo + ((0:Nat):Int) * 1 = lo:=by simp
    have e2:(((hi - lo).toNat:Nat):Int) - ((0:Nat):Int) = Builtin.Range.rangeSize lo hi 1:=by rw [rangeSize_one]; split <;> omega
    show IsRangeIter _ _ (lo + ((0:Nat):Int) * 1) ((((hi - lo).toNat:Nat):Int) - ((0:Nat):Int)) 1
    rw [e1,e2]
    exact Heap.get?_push_size _ rfl
  . have e:b = (s.heap.push { cls:=.type "range",data:=.fields #[.int lo t,.int hi u,.int 1 v] }).objs.size:=by simpa using hb
    subst e
    exact I1.fpOk (Nat.le_refl _) (I1.hok.fresh (Nat.le_refl _))
noncomputable def iRng1 (ta:TA):TI:=fun σ H R => ta σ H fun vs H1 => ∃ j:Int,vs = [.int j] /\ -(2 ^ 62) <= j /\ j < 2 ^ 62 /\ R (Itr 0 j.toNat) H1
noncomputable def iRng2 (ta:TA):TI:=fun σ H R => ta σ H fun vs H1 => ∃ i j:Int,vs = [.int i,.int j] /\ (-(2 ^ 62) <= i /\ i < 2 ^ 62 /\ -(2 ^ 62) <= j /\ j < 2 ^ 62) /\ R (Itr i (j - i).toNat) H1
theorem pi_range1 {a:Expr} {ta:TA} {p pos:Pos} (hg:Gl X "range") (hm:X.mg "range" = none) (ha:PA X [a] ta) (hs:starEach [a] X.env = [(false,eval a X.env)]:=by rfl):PI X tg (.Call (.Name "range" p) [a] [] pos) (iRng1 ta):=by
  intro pins s σ H R I h
  refine Call_ (ld_blt I hg hm boot_range (PyProof.Rows.callWith_type1 (thn (ha pos pins s σ H _ I h) fun us s1 ⟨vs,H1,I1,r1,q1⟩ => ?_) hs rfl))
  obtain ⟨j,e,q1,q2,q⟩:=q1
  subst e
  cases r1 with
  | cons r rr =>
    cases rr
    obtain ⟨t,rfl⟩:=r
    exact call_range_1 (range_it I1 (by omega) (by omega) q1 q2 (by simpa using q))
theorem pi_range2 {a b:Expr} {ta:TA} {p pos:Pos} (hg:Gl X "range") (hm:X.mg "range" = none) (ha:PA X [a,b] ta) (hs:starEach [a,b] X.env = [(false,eval a X.env),(false,eval b X.env)]:=by rfl) (hs2:starEach [b] X.env = [(false,eval b X.env)]:=by rfl) :
    PI X tg (.Call (.Name "range" p) [a,b] [] pos) (iRng2 ta):=by
  intro pins s σ H R I h
  refine Call_ (ld_blt I hg hm boot_range (PyProof.Rows.callWith_type1 (thn (ha pos pins s σ H _ I h) fun us s1 ⟨vs,H1,I1,r1,q1⟩ => ?_) (by rw [hs,hs2]) (by rw [hs2]; rfl)))
  obtain ⟨i,j,e,⟨q1,q2,q3,q4⟩,q⟩:=q1
  subst e
  cases r1 with
  | cons r rr =>
    cases rr with
    | cons r' rr =>
      cases rr
      obtain ⟨t,rfl⟩:=r
      obtain ⟨t',rfl⟩:=r'
      exact call_range_2 (range_it I1 q1 q2 q3 q4 q)
noncomputable def tFor (wi:TI) (g:TG) (tb:TS):TS:=fun D σ H => wi σ H fun J H1 => ∃ W:Nat -> Nat -> St -> Hp -> Prop,(∃ m,W 0 m σ H1) /\ ∀ i m σ H,W i m σ H ->
  (J.stop i H /\ D.nx σ H) ∨ (J.go i H /\ ∃ N:St -> Hp -> Prop,(∀ σ' H',N σ' H' -> ∃ m',m' < m /\ W (i + 1) m' σ' H') /\ ∀ x H',J.yld i H x H' -> g x σ H' fun σ2 H2 => tb { D with nx:=N,ct:=N,bk:=D.nx } σ2 H2)
noncomputable def pinsAt (fp:List Addr) (h:Heap):List (Addr×Obj):=fp.filterMap fun b => (h.get? b).map fun o => (b,o)
theorem mem_pinsAt {fp:List Addr} {h:Heap} {b:Addr} {o:Obj} (hb:b ∈ fp) (e:h.get? b = some o):(b,o) ∈ pinsAt fp h:=List.mem_filterMap.mpr ⟨b,hb,by rw [e]; rfl⟩
theorem of_pinsAt {fp:List Addr} {h:Heap} {p:Addr×Obj} (hp:p ∈ pinsAt fp h):p.1 ∈ fp /\ h.get? p.1 = some p.2:=by
  obtain ⟨b,hb,e⟩:=List.mem_filterMap.mp hp
  cases q:h.get? b with
  | none => rw [q] at e; cases e
  | some o =>
    rw [q] at e
    have e':(b,o) = p:=Option.some.inj e
    subst e'
    exact ⟨hb,q⟩
theorem Inv.pinned {pins:List (Addr×Obj)} {σ:St} {H:Hp} {s:Shared} {fp:List Addr} (I:Inv X pins σ H s) (hf:∀ b ∈ fp,FpOk X pins H b) (ho:∀ b ∈ fp,∃ o,s.heap.get? b = some o /\ ∀ v,o.data ≠ .cell v):Inv X (pins ++ pinsAt fp s.heap) σ H s :=
  I.pins_of fun p hp => (List.mem_append.mp hp).elim (fun z => I.pin p (List.mem_append_right _ z)) fun z => by
    obtain ⟨hb,e⟩:=of_pinsAt z
    obtain ⟨f0,f1,f2,_⟩:=hf p.1 hb
    obtain ⟨o,e',d⟩:=ho p.1 hb
    rw [e] at e'; cases e'
    exact ⟨e,f0,f1,f2,d⟩
theorem Inv.unpinned {pins pl:List (Addr×Obj)} {σ:St} {H:Hp} {s:Shared} (I:Inv X (pins ++ pl) σ H s):Inv X pins σ H s:=I.pins_of fun p hp => I.pin p (List.mem_append_right _ (List.mem_append_left _ hp))
theorem ps_for {iter:Expr} {body:List Stmt} {wi:TI} {g:TG} {tb:TS} {pos:Pos} (hp:PassesOwn (model X.prog X.w) X.A X.env X.xe) (hc:X.calm = true) (hi:PI X tg iter wi) (hg:PG X tg g) (hb:PSs X body tb)
    (hs:∀ x,foldedSetIterable iter X.env x = pure x:=by intro _; rfl):PS X (.For tg iter body [] pos) (tFor wi g tb):=by
  intro pins s σ H D I h
  refine wpAny_For (thn (hi pins s σ H _ I h) fun v s1 h1 => thn h1 fun itv s2 h2 => ?_) hs
  obtain ⟨it,fp,tn,J,H2,e,I2,T,st2,f2,W,⟨m0,w0⟩,turn⟩:=h2
  subst e
  -- what stays true of the iterator's objects through the loop
  have stat:∀ {H':Hp},(∀ b ∈ fp,H' b = none) -> ∀ b ∈ fp,FpOk X pins H' b:=fun hn b hb => ⟨hn b hb,(f2 b hb).2⟩
  refine codeAny_forLoop_any (fun n s' => ∃ i σ' H',Inv X pins σ' H' s' /\ tn i s'.heap /\ (∀ b ∈ fp,H' b = none) /\ W i n σ' H') ?_ m0 ⟨0,σ,H2,I2,st2,fun b hb => (f2 b hb).1,w0⟩
  rintro n s3 ⟨i,σ3,H3,I3,st3,fr3,w3⟩
  rcases turn i n σ3 H3 w3 with ⟨stop,qn⟩ | ⟨go,N,hN,step⟩
  . refine wpAny_passesOwn hp (thn (T.done X rfl rfl rfl hc i pins s3 σ3 H3 X.xe I3 (stat fr3) st3 stop) fun r s4 ⟨hr,I4⟩ => ?_)
    subst hr
    exact wpAny_execs_nil ⟨σ3,H3,I4,qn⟩
  . refine wpAny_passesOwn hp (thn (T.item X rfl rfl rfl hc i pins s3 σ3 H3 X.xe I3 (stat fr3) st3 go) fun r s4 ⟨u,hr,h4⟩ => ?_)
    subst hr
    refine wpAny_passesOwn hp (thn h4 fun _ s5 ⟨x,H5,I5,r5,y5,st5,fr5⟩ => ?_)
    have I5':=I5.pinned (stat fr5) (T.obj _ _ st5)
    refine wpAny_passesOwn hp (thn (hg _ s5 σ3 H5 x u _ I5' r5 (step x H5 y5)) fun _ s6 ⟨σ6,H6,I6,q6⟩ => ?_)
    refine wpAny_passesOwn hp (thn (hb _ s6 σ6 H6 _ I6 q6) fun f s7 q7 => ?_)
    have again:∀ {σ7:St} {H7:Hp},Inv X (pins ++ pinsAt fp s5.heap) σ7 H7 s7 -> N σ7 H7 -> ∃ m,m < n /\ ∃ i σ' H',Inv X pins σ' H' s7 /\ tn i s7.heap /\ (∀ b ∈ fp,H' b = none) /\ W i m σ' H':=fun {σ7 H7} I7 n7 => by
      obtain ⟨m',hm,w7⟩:=hN σ7 H7 n7
      refine ⟨m',hm,i + 1,σ7,H7,I7.unpinned,T.keep _ _ _ st5 fun b hb o e => (I7.pin (b,o) (List.mem_append_right _ (List.mem_append_right _ (mem_pinsAt hb e)))).1,fun b hb => ?_,w7⟩
      obtain ⟨o,e,d⟩:=T.obj _ _ st5 b hb
      exact (I7.pin (b,o) (List.mem_append_right _ (List.mem_append_right _ (mem_pinsAt hb e)))).2.1
    cases f with
    | next => obtain ⟨σ7,H7,I7,n7⟩:=q7; exact again I7 n7
    | cont => obtain ⟨σ7,H7,I7,n7⟩:=q7; exact again I7 n7
    | brk => obtain ⟨σ7,H7,I7,q7⟩:=q7; exact ⟨σ7,H7,I7.unpinned,q7⟩
    | ret v => obtain ⟨x7,σ7,H7,I7,r7,q7⟩:=q7; exact ⟨x7,σ7,H7,I7.unpinned,r7,q7⟩
end
theorem for_list {K:PySem.W.Frag} {a:Addr} {xs:List V} {g:TG} {tb:TS} {D:Ends} {σ:St} {H:Hp} (Pv:Nat -> St -> Hp -> Prop) (h0:Pv 0 σ H) (hl:∀ i σ H,i <= xs.length -> Pv i σ H -> SqL K H a xs)
    (hs:∀ i x σ H,xs[i]? = some x -> Pv i σ H -> g x σ H fun σ2 H2 => tb { D with nx:=Pv (i + 1),ct:=Pv (i + 1),bk:=D.nx } σ2 H2) (hd:∀ σ H,Pv xs.length σ H -> D.nx σ H) :
    ∃ W:Nat -> Nat -> St -> Hp -> Prop,(∃ m,W 0 m σ H) /\ ∀ i m σ H,W i m σ H ->
      ((Itl K a).stop i H /\ D.nx σ H) ∨ ((Itl K a).go i H /\ ∃ N:St -> Hp -> Prop,(∀ σ' H',N σ' H' -> ∃ m',m' < m /\ W (i + 1) m' σ' H') /\ ∀ x H',(Itl K a).yld i H x H' -> g x σ H' fun σ2 H2 => tb { D with nx:=N,ct:=N,bk:=D.nx } σ2 H2):=by
  refine ⟨fun i m σ H => m = xs.length - i /\ i <= xs.length /\ Pv i σ H,⟨xs.length,by simp,Nat.zero_le _,h0⟩,?_⟩
  rintro i m σ H ⟨rfl,hi,p⟩
  have q:=hl i σ H hi p
  by_cases hlt:i < xs.length
  . refine .inr ⟨⟨xs,xs[i],q,by simp [hlt]⟩,Pv (i + 1),fun σ' H' p' => ⟨xs.length - (i + 1),by omega,rfl,hlt,p'⟩,fun x H' y => ?_⟩
    obtain ⟨e,y⟩:=y
    subst e
    exact hs i x σ _ (y xs q) p
  . have e:i = xs.length:=by omega
    subst e
    exact .inl ⟨⟨xs,q,Nat.le_refl _⟩,hd σ H p⟩
theorem for_range {lo:Int} {n:Nat} {g:TG} {tb:TS} {D:Ends} {σ:St} {H:Hp} (Pv:Nat -> St -> Hp -> Prop) (h0:Pv 0 σ H)
    (hs:∀ i σ H,i < n -> Pv i σ H -> g (.int (lo + i)) σ H fun σ2 H2 => tb { D with nx:=Pv (i + 1),ct:=Pv (i + 1),bk:=D.nx } σ2 H2) (hd:∀ σ H,Pv n σ H -> D.nx σ H) :
    ∃ W:Nat -> Nat -> St -> Hp -> Prop,(∃ m,W 0 m σ H) /\ ∀ i m σ H,W i m σ H ->
      ((Itr lo n).stop i H /\ D.nx σ H) ∨ ((Itr lo n).go i H /\ ∃ N:St -> Hp -> Prop,(∀ σ' H',N σ' H' -> ∃ m',m' < m /\ W (i + 1) m' σ' H') /\ ∀ x H',(Itr lo n).yld i H x H' -> g x σ H' fun σ2 H2 => tb { D with nx:=N,ct:=N,bk:=D.nx } σ2 H2):=by
  refine ⟨fun i m σ H => m = n - i /\ i <= n /\ Pv i σ H,⟨n,by simp,Nat.zero_le _,h0⟩,?_⟩
  rintro i m σ H ⟨rfl,hi,p⟩
  by_cases hlt:i < n
  . refine .inr ⟨hlt,Pv (i + 1),fun σ' H' p' => ⟨n - (i + 1),by omega,rfl,hlt,p'⟩,fun x H' y => ?_⟩
    obtain ⟨e,y⟩:=y
    subst e y
    exact hs i σ _ hlt p
  . have e:i = n:=by omega
    subst e
    exact .inl ⟨Nat.le_refl _,hd σ H p⟩
theorem while_by {c:TT} {tb:TS} {D:Ends} {σ:St} {H:Hp} (Pv:St -> Hp -> Prop) (μ:St -> Hp -> Nat) (h0:Pv σ H)
    (hs:∀ σ H,Pv σ H -> c σ H fun b H1 => if b = true then tb { D with nx:=fun σ' H' => Pv σ' H' /\ μ σ' H' < μ σ H,ct:=fun σ' H' => Pv σ' H' /\ μ σ' H' < μ σ H,bk:=D.nx } σ H1 else D.nx σ H1)
    (mono:∀ σ H Q Q',(∀ b H1,Q b H1 -> Q' b H1) -> c σ H Q -> c σ H Q'):tWhile c tb D σ H:=by
  refine ⟨fun m σ H => m = μ σ H /\ Pv σ H,⟨_,rfl,h0⟩,?_⟩
  rintro m σ H ⟨rfl,p⟩
  refine mono σ H _ _ (fun b H1 q => ?_) (hs σ H p)
  cases b with
  | true => exact ⟨_,fun σ' H' ⟨p',l⟩ => ⟨_,l,rfl,p'⟩,q⟩
  | false => exact q
end L2
namespace L2
open PySem PySem.Spec PyProof.Rows
noncomputable abbrev R2:=V -> V -> Hp -> VK -> Prop
noncomputable def OpR (X:Cx) (f:Value -> Value -> Sem Value) (r:R2):Prop :=
  ∀ (pins:List (Addr×Obj)) (s:Shared) (σ:St) (H:Hp) (x y:V) (v u:Value) (Q:VK),Inv X pins σ H s -> RelV x v -> RelV y u -> r x y H Q ->
    wpAny (model X.prog X.w) X.A (f v u) (EP X pins σ Q) X.xe s
noncomputable def UnR (X:Cx) (f:Value -> Sem Value) (r:V -> Hp -> VK -> Prop):Prop :=
  ∀ (pins:List (Addr×Obj)) (s:Shared) (σ:St) (H:Hp) (x:V) (v:Value) (Q:VK),Inv X pins σ H s -> RelV x v -> r x H Q ->
    wpAny (model X.prog X.w) X.A (f v) (EP X pins σ Q) X.xe s
noncomputable def CallR (X:Cx) (f:Value) (r:List V -> Hp -> VK -> Prop):Prop :=
  ∀ (pins:List (Addr×Obj)) (s:Shared) (σ:St) (H:Hp) (xs:List V) (us:List Value) (Q:VK),Inv X pins σ H s -> Vals xs us -> r xs H Q ->
    wpAny (model X.prog X.w) X.A (call f us) (EP X pins σ Q) X.xe s
noncomputable def TruR (X:Cx) (r:V -> Hp -> (Bool -> Hp -> Prop) -> Prop):Prop :=
  ∀ (pins:List (Addr×Obj)) (s:Shared) (σ:St) (H:Hp) (x:V) (v:Value) (Q:Bool -> Hp -> Prop),Inv X pins σ H s -> RelV x v -> r x H Q ->
    wpAny (model X.prog X.w) X.A (truthy v) (TP X pins σ Q) X.xe s
noncomputable def tOp (r:R2) (ta tb:TE):TE:=fun σ H Q => ta σ H fun x H1 => tb σ H1 fun y H2 => r x y H2 Q
noncomputable def tUn (r:V -> Hp -> VK -> Prop) (ta:TE):TE:=fun σ H Q => ta σ H fun x H1 => r x H1 Q
noncomputable def rI (C:Int -> Int -> Prop) (g:Int -> Int -> V):R2:=fun x y H Q => ∃ i j,x = .int i /\ y = .int j /\ C i j /\ Q (g i j) H
noncomputable def rI0 (g:Int -> Int -> V):R2:=fun x y H Q => ∃ i j,x = .int i /\ y = .int j /\ Q (g i j) H
noncomputable def rU (g:Int -> V):V -> Hp -> VK -> Prop:=fun x H Q => ∃ i,x = .int i /\ Q (g i) H
section
variable {X:Cx} {a b c:Expr} {ta tb tc:TE} {pos:Pos}
theorem binT (ha:PE X a ta) (hb:PE X b tb) {pins:List (Addr×Obj)} {s:Shared} {σ:St} {H:Hp} {R:V -> V -> Hp -> Prop} (I:Inv X pins σ H s)
    (h:ta σ H fun x H1 => tb σ H1 fun y H2 => R x y H2) {Q:Value -> Shared -> Prop} {f:Value -> Value -> Sem Value}
    (hf:∀ v u s2 x y H2,Inv X pins σ H2 s2 -> RelV x v -> RelV y u -> R x y H2 -> wpAny (model X.prog X.w) X.A (f v u) Q X.xe s2) :
    wpAny (model X.prog X.w) X.A (eval a X.env) (fun v s₁ => wpAny (model X.prog X.w) X.A (eval b X.env) (fun u s₂ => wpAny (model X.prog X.w) X.A (f v u) Q X.xe s₂) X.xe s₁) X.xe s:=by
  refine thn (ha pins s σ H _ I h) fun v s1 ⟨x,H1,I1,r1,q1⟩ => ?_
  refine thn (hb pins s1 σ H1 _ I1 q1) fun u s2 ⟨y,H2,I2,r2,q2⟩ => ?_
  exact hf v u s2 x y H2 I2 r1 r2 q2
theorem pe_op {op:Operator} {r:R2} (ho:OpR X (binaryOp op) r) (ha:PE X a ta) (hb:PE X b tb):PE X (.BinOp a op b pos) (tOp r ta tb):=by
  intro pins s σ H Q I h
  exact wpAny_BinOp (binT ha hb I h fun v u s2 x y H2 I2 rx ry q => ho pins s2 σ H2 x y v u Q I2 rx ry q)
theorem pe_un {op:UnaryOp} {r:V -> Hp -> VK -> Prop} (ho:UnR X (unaryOp op) r) (ha:PE X a ta):PE X (.UnaryOp op a pos) (tUn r ta):=by
  intro pins s σ H Q I h
  exact UnaryOp_ (thn (ha pins s σ H _ I h) fun v s1 ⟨x,H1,I1,r1,q1⟩ => ho pins s1 σ H1 x v Q I1 r1 q1)
theorem opI {f:Value -> Value -> Sem Value} {C:Int -> Int -> Prop} {g:Int -> Int -> Int}
    (rule:∀ (i j:Int) (t u:Tok) (s:Shared) (Q:Value -> Shared -> Prop) (E:Value -> Shared -> Prop),C i j -> Q (.int (g i j) s.toks) { s with toks:=s.toks + 1 } -> wpAny (model X.prog X.w) X.A (f (.int i t) (.int j u)) Q E s) :
    OpR X f (rI C fun i j => .int (g i j)):=by
  intro pins s σ H x y v u Q I rx ry h
  obtain ⟨i,j,rfl,rfl,hc,q⟩:=h
  obtain ⟨t,rfl⟩:=rx
  obtain ⟨t',rfl⟩:=ry
  exact rule i j t t' s _ _ hc ⟨.int (g i j),H,I.tok _,⟨_,rfl⟩,q⟩
theorem opI0 {f:Value -> Value -> Sem Value} {g:Int -> Int -> Int}
    (rule:∀ (i j:Int) (t u:Tok) (s:Shared) (Q:Value -> Shared -> Prop) (E:Value -> Shared -> Prop),Q (.int (g i j) s.toks) { s with toks:=s.toks + 1 } -> wpAny (model X.prog X.w) X.A (f (.int i t) (.int j u)) Q E s) :
    OpR X f (rI0 fun i j => .int (g i j)):=by
  intro pins s σ H x y v u Q I rx ry h
  obtain ⟨i,j,rfl,rfl,q⟩:=h
  obtain ⟨t,rfl⟩:=rx
  obtain ⟨t',rfl⟩:=ry
  exact rule i j t t' s _ _ ⟨.int (g i j),H,I.tok _,⟨_,rfl⟩,q⟩
theorem opB0 {f:Value -> Value -> Sem Value} {g:Int -> Int -> Bool}
    (rule:∀ (i j:Int) (t u:Tok) (s:Shared) (Q:Value -> Shared -> Prop) (E:Value -> Shared -> Prop),Q (.bool (g i j)) s -> wpAny (model X.prog X.w) X.A (f (.int i t) (.int j u)) Q E s) :
    OpR X f (rI0 fun i j => .bl (g i j)):=by
  intro pins s σ H x y v u Q I rx ry h
  obtain ⟨i,j,rfl,rfl,q⟩:=h
  obtain ⟨t,rfl⟩:=rx
  obtain ⟨t',rfl⟩:=ry
  exact rule i j t t' s _ _ ⟨.bl (g i j),H,I,rfl,q⟩
noncomputable def CPow (i j:Int):Prop:=0 <= j /\ j <= 1000000 /\ i.natAbs < 2 ^ 64
noncomputable def CMul (i j:Int):Prop:=(-(2 ^ 64) < i /\ i < 2 ^ 64) ∨ (-(2 ^ 64) < j /\ j < 2 ^ 64)
theorem CMul.ok {i j:Int} (h:CMul i j):IntMulOk i j:=by
  rcases h with ⟨h1,h2⟩ | ⟨h1,h2⟩
  . exact .of_left (intBits_le_64 h1 h2)
  . exact .of_right (intBits_le_64 h1 h2)
theorem op_add:OpR X (binaryOp .Add) (rI0 fun i j => .int (i + j)):=opI0 fun _ _ _ _ _ _ _ q => add_int q
theorem op_sub:OpR X (binaryOp .Sub) (rI0 fun i j => .int (i - j)):=opI0 fun _ _ _ _ _ _ _ q => sub_int q
theorem op_mod:OpR X (binaryOp .Mod) (rI (fun _ j => 0 < j) fun i j => .int (i % j)):=opI fun i j _ _ _ _ _ hc q => by
  have h1:(0:Int) < j:=hc
  exact mod_int' (by omega) (by rw [Int.fmod_eq_emod_of_nonneg i (by omega)]; exact q)
theorem op_modN:OpR X (binaryOp .Mod) (rI (fun _ j => j ≠ 0) fun i j => .int (i.fmod j)):=opI fun _ _ _ _ _ _ _ hc q => mod_int' hc q
theorem op_pow:OpR X (binaryOp .Pow) (rI CPow fun i j => .int (i ^ j.toNat)):=opI fun _ _ _ _ _ _ _ hc q => pow_int_small hc.1 hc.2.1 hc.2.2 q
theorem unI {f:Value -> Sem Value} {g:Int -> Int}
    (rule:∀ (i:Int) (t:Tok) (s:Shared) (Q:Value -> Shared -> Prop) (E:Value -> Shared -> Prop),Q (.int (g i) s.toks) { s with toks:=s.toks + 1 } -> wpAny (model X.prog X.w) X.A (f (.int i t)) Q E s) :
    UnR X f (rU fun i => .int (g i)):=by
  intro pins s σ H x v Q I rx h
  obtain ⟨i,rfl,q⟩:=h
  obtain ⟨t,rfl⟩:=rx
  exact rule i t s _ _ ⟨.int (g i),H,I.tok _,⟨_,rfl⟩,q⟩
theorem un_neg:UnR X (unaryOp .USub) (rU fun i => .int (-i)):=unI fun _ _ _ _ _ q => neg_int q
end
noncomputable def scal:V -> V -> Bool
  | .non,.non => true | .non,.int _ => true | .int _,.non => true | .non,.bl _ => true | .bl _,.non => true | .non,.str _ => true | .str _,.non => true
  | .int _,.int _ => true | .bl _,.bl _ => true | .str _,.str _ => true | .byt _,.byt _ => true
  | .int _,.str _ => true | .str _,.int _ => true | .bl _,.str _ => true | .str _,.bl _ => true
  | _,_ => false
noncomputable def rEq:R2:=fun x y H Q => scal x y = true /\ Q (.bl (decide (x = y))) H
noncomputable def rNe:R2:=fun x y H Q => scal x y = true /\ Q (.bl (!decide (x = y))) H
theorem dec_int {i j:Int}:decide (V.int i = V.int j) = (i == j):=by
  rw [Bool.eq_iff_iff]
  simp
theorem dec_bl {i j:Bool}:decide (V.bl i = V.bl j) = (i == j):=by
  rw [Bool.eq_iff_iff]
  simp
theorem dec_str {i j:Str}:decide (V.str i = V.str j) = (i == j):=by
  rw [Bool.eq_iff_iff]
  simp
theorem dec_byt {i j:Array UInt8}:decide (V.byt i = V.byt j) = (i.toList == j.toList):=by
  rw [Bool.eq_iff_iff]
  cases i
  cases j
  simp
section
variable {X:Cx} {a b c:Expr} {ta tb tc:TE} {pos:Pos}
theorem fin_bl {pins:List (Addr×Obj)} {σ:St} {H:Hp} {s:Shared} {Q:VK} {k k':Bool} (I:Inv X pins σ H s) (q:Q (.bl k) H) (e:k = k'):EP X pins σ Q (.bool k') s:=by
  subst e
  exact ⟨.bl k,H,I,rfl,q⟩
theorem op_eq:OpR X (compareOp .Eq) rEq:=by
  intro pins s σ H x y v u Q I rx ry h
  obtain ⟨hs,q⟩:=h
  cases x with
  | non =>
    cases rx
    cases y with
    | non => cases ry; exact PySem.EqNone.eq_none_none (fin_bl I q (by simp))
    | bl j => cases ry; exact PySem.EqNone.eq_none_bool (fin_bl I q (by simp))
    | int j => obtain ⟨t',rfl⟩:=ry; exact PySem.EqNone.eq_none_int (fin_bl I q (by simp))
    | str j => obtain ⟨t',rfl⟩:=ry; exact PySem.EqNone.eq_none_str (fin_bl I q (by simp))
    | _ => exact absurd (show false = true from hs) Bool.false_ne_true
  | bl i =>
    cases rx
    cases y with
    | non => cases ry; exact PySem.EqNone.eq_bool_none (fin_bl I q (by simp))
    | bl j => cases ry; exact eq_bool (fin_bl I q dec_bl)
    | str j => obtain ⟨t',rfl⟩:=ry; exact PySem.EqMixed.eq_bool_str (fin_bl I q (by simp))
    | _ => exact absurd (show false = true from hs) Bool.false_ne_true
  | int i =>
    obtain ⟨t,rfl⟩:=rx
    cases y with
    | non => cases ry; exact PySem.EqNone.eq_int_none (fin_bl I q (by simp))
    | int j => obtain ⟨t',rfl⟩:=ry; exact eq_int (fin_bl I q dec_int)
    | str j => obtain ⟨t',rfl⟩:=ry; exact PySem.EqMixed.eq_int_str (fin_bl I q (by simp))
    | _ => exact absurd (show false = true from hs) Bool.false_ne_true
  | str i =>
    obtain ⟨t,rfl⟩:=rx
    cases y with
    | non => cases ry; exact PySem.EqNone.eq_str_none (fin_bl I q (by simp))
    | bl j => cases ry; exact PySem.EqMixed.eq_str_bool (fin_bl I q (by simp))
    | int j => obtain ⟨t',rfl⟩:=ry; exact PySem.EqMixed.eq_str_int (fin_bl I q (by simp))
    | str j => obtain ⟨t',rfl⟩:=ry; exact eq_str (fin_bl I q dec_str)
    | _ => exact absurd (show false = true from hs) Bool.false_ne_true
  | byt i =>
    obtain ⟨t,rfl⟩:=rx
    cases y with
    | byt j => obtain ⟨t',rfl⟩:=ry; exact PySem.W.eq_bytes (fin_bl I q dec_byt)
    | _ => exact absurd (show false = true from hs) Bool.false_ne_true
  | _ => cases y <;> exact absurd (show false = true from hs) Bool.false_ne_true
theorem op_ne:OpR X (compareOp .NotEq) rNe:=by
  intro pins s σ H x y v u Q I rx ry h
  obtain ⟨hs,q⟩:=h
  cases x with
  | non =>
    cases rx
    cases y with
    | non => cases ry; exact PySem.EqNone.ne_none_none (fin_bl I q (by simp))
    | bl j => cases ry; exact PySem.EqNone.ne_none_bool (fin_bl I q (by simp))
    | int j => obtain ⟨t',rfl⟩:=ry; exact PySem.EqNone.ne_none_int (fin_bl I q (by simp))
    | str j => obtain ⟨t',rfl⟩:=ry; exact PySem.EqNone.ne_none_str (fin_bl I q (by simp))
    | _ => exact absurd (show false = true from hs) Bool.false_ne_true
  | bl i =>
    cases rx
    cases y with
    | non => cases ry; exact PySem.EqNone.ne_bool_none (fin_bl I q (by simp))
    | bl j => cases ry; exact ne_bool (fin_bl I q (congrArg not dec_bl))
    | str j => obtain ⟨t',rfl⟩:=ry; exact PySem.EqMixed.ne_bool_str (fin_bl I q (by simp))
    | _ => exact absurd (show false = true from hs) Bool.false_ne_true
  | int i =>
    obtain ⟨t,rfl⟩:=rx
    cases y with
    | non => cases ry; exact PySem.EqNone.ne_int_none (fin_bl I q (by simp))
    | int j => obtain ⟨t',rfl⟩:=ry; exact ne_int (fin_bl I q (congrArg not dec_int))
    | str j => obtain ⟨t',rfl⟩:=ry; exact PySem.EqMixed.ne_int_str (fin_bl I q (by simp))
    | _ => exact absurd (show false = true from hs) Bool.false_ne_true
  | str i =>
    obtain ⟨t,rfl⟩:=rx
    cases y with
    | non => cases ry; exact PySem.EqNone.ne_str_none (fin_bl I q (by simp))
    | bl j => cases ry; exact PySem.EqMixed.ne_str_bool (fin_bl I q (by simp))
    | int j => obtain ⟨t',rfl⟩:=ry; exact PySem.EqMixed.ne_str_int (fin_bl I q (by simp))
    | str j => obtain ⟨t',rfl⟩:=ry; exact ne_str (fin_bl I q (congrArg not dec_str))
    | _ => exact absurd (show false = true from hs) Bool.false_ne_true
  | byt i =>
    obtain ⟨t,rfl⟩:=rx
    cases y with
    | byt j => obtain ⟨t',rfl⟩:=ry; exact PySem.W.ne_bytes (fin_bl I q (congrArg not dec_byt))
    | _ => exact absurd (show false = true from hs) Bool.false_ne_true
  | _ => cases y <;> exact absurd (show false = true from hs) Bool.false_ne_true
theorem op_lt:OpR X (compareOp .Lt) (rI0 fun i j => .bl (decide (i < j))):=opB0 fun _ _ _ _ _ _ _ q => lt_int q
theorem op_gt:OpR X (compareOp .Gt) (rI0 fun i j => .bl (decide (j < i))):=opB0 fun _ _ _ _ _ _ _ q => gt_int q
theorem op_ge:OpR X (compareOp .GtE) (rI0 fun i j => .bl (decide (j <= i))):=opB0 fun _ _ _ _ _ _ _ q => ge_int q
theorem op_isN:OpR X (compareOp .Is) (fun x y H Q => y = .non /\ Q (.bl (decide (x = .non))) H):=by
  intro pins s σ H x y v u Q I rx ry h
  obtain ⟨rfl,q⟩:=h
  cases ry
  refine is_none_gen (fin_bl I q ?_)
  cases x <;> first
    | (cases rx; rfl)
    | (obtain ⟨t,rfl⟩:=rx; rfl)
theorem op_notN:OpR X (compareOp .IsNot) (fun x y H Q => y = .non /\ Q (.bl (!decide (x = .non))) H):=by
  intro pins s σ H x y v u Q I rx ry h
  obtain ⟨rfl,q⟩:=h
  cases ry
  refine isnot_none_gen (fin_bl I q ?_)
  cases x <;> first
    | (cases rx; rfl)
    | (obtain ⟨t,rfl⟩:=rx; rfl)
theorem OpR.or {f:Value -> Value -> Sem Value} {r r':R2} (h:OpR X f r) (h':OpR X f r'):OpR X f (fun x y H Q => r x y H Q ∨ r' x y H Q):=by
  intro pins s σ H x y v u Q I rx ry q
  rcases q with q | q
  . exact h pins s σ H x y v u Q I rx ry q
  . exact h' pins s σ H x y v u Q I rx ry q
theorem nomark (b:Expr) {op:CmpOp} (h:op ≠ .In:=by decide) (h2:op ≠ .NotIn:=by decide):behindInMarks op b = false:=by
  have e1:(op == CmpOp.In) = false:=by cases op <;> first | rfl | exact absurd rfl h
  have e2:(op == CmpOp.NotIn) = false:=by cases op <;> first | rfl | exact absurd rfl h2
  cases b <;> simp [behindInMarks,e1,e2]
theorem pe_cmpR {op:CmpOp} {r:R2} (ho:OpR X (compareOp op) r) (ha:PE X a ta) (hb:PE X b tb) (hm:behindInMarks op b = false):PE X (.Compare a [op] [b] pos) (tOp r ta tb):=by
  intro pins s σ H Q I h
  exact wpAny_Compare1 (binT ha hb I h fun v u s2 x y H2 I2 rx ry q => ho pins s2 σ H2 x y v u Q I2 rx ry q) hm
noncomputable def tTest (t:TE):TT:=fun σ H Q => t σ H fun x H' => ∃ k,x = .bl k /\ Q k H'
theorem pt_cmpR {op:CmpOp} {r:R2} (ho:OpR X (compareOp op) r) (ha:PE X a ta) (hb:PE X b tb) (hm:behindInMarks op b = false):PT X (.Compare a [op] [b] pos) (tTest (tOp r ta tb)):=by
  intro pins s σ H Q I h
  refine wpAny_isTrue_Compare1 (thn (ha pins s σ H _ I h) fun v s1 ⟨x,H1,I1,r1,q1⟩ => thn (hb pins s1 σ H1 _ I1 q1) fun u s2 ⟨y,H2,I2,r2,q2⟩ =>
    thn (ho pins s2 σ H2 x y v u _ I2 r1 r2 q2) fun c s3 ⟨z,H3,I3,r3,k,e,q3⟩ => ?_) hm
  subst e
  cases r3
  exact wpAny_truthy_bool ⟨H3,I3,q3⟩
noncomputable def TruV (K:PySem.W.Frag) (x:V) (H:Hp) (k:Bool):Prop :=
  match x with
  | .non => k = false
  | .bl b => k = b
  | .int i => k = (i != 0)
  | .str y => y.length <= sizeLine /\ k = ((y.length:Int) != 0)
  | .byt y => y.size <= sizeLine /\ k = ((y.size:Int) != 0)
  | .ref p => (∃ xs,SqL K H p xs /\ k = !xs.isEmpty) ∨ (∃ xs,SqT K H p xs /\ k = !xs.isEmpty) ∨ ∃ kvs,H p = some (.dK kvs) /\ k = !kvs.isEmpty
  | _ => False
theorem isEmpty_kv {κ:Type} {kvs:List (κ×V)} {vs:List (κ×Value)} (r:KV kvs vs):(!vs.isEmpty) = !kvs.isEmpty:=by
  cases r <;> rfl
theorem isEmpty_of {xs:List V} {its:List Value} (r:Vals xs its):(!its.toArray.isEmpty) = !xs.isEmpty:=by
  cases r <;> simp
theorem line63:(sizeLine:Nat) < 2 ^ 63:=by rw [sizeLine_eq]; decide
theorem tru_ok:TruR X (fun x H Q => ∃ k,TruV X.K x H k /\ Q k H):=by
  intro pins s σ H x v Q I rx h
  obtain ⟨k,e,q⟩:=h
  have hl:=line63
  have hs:sizeLine = 16777216:=sizeLine_eq
  cases x with
  | non =>
    cases rx
    have e':k = false:=e
    subst e'
    exact truthy_none ⟨H,I,q⟩
  | bl b =>
    cases rx
    have e':k = b:=e
    subst e'
    exact wpAny_truthy_bool ⟨H,I,q⟩
  | int i =>
    obtain ⟨t,rfl⟩:=rx
    have e':k = (i != 0):=e
    subst e'
    exact PySem.P.truthy_int ⟨H,I,q⟩
  | str y =>
    obtain ⟨t,rfl⟩:=rx
    obtain ⟨hy,e'⟩:y.length <= sizeLine /\ k = ((y.length:Int) != 0):=e
    subst e'
    exact PySem.P.truthy_str (by omega) ⟨H,I.tok _,q⟩
  | byt y =>
    obtain ⟨t,rfl⟩:=rx
    obtain ⟨hy,e'⟩:y.size <= sizeLine /\ k = ((y.size:Int) != 0):=e
    subst e'
    exact PySem.W.truthy_bytes (by omega) ⟨H,I.tok _,q⟩
  | ref p =>
    cases rx
    have e':(∃ xs,SqL X.K H p xs /\ k = !xs.isEmpty) ∨ (∃ xs,SqT X.K H p xs /\ k = !xs.isEmpty) ∨ ∃ kvs,H p = some (.dK kvs) /\ k = !kvs.isEmpty:=e
    rcases e' with ⟨xs,hx,e'⟩ | ⟨xs,hx,e'⟩ | ⟨kvs,hx,e'⟩
    . subst e'
      obtain ⟨its,r,pl,hz⟩:=I.list hx
      have hlen:=r.length
      exact wpAny_truthy_list pl.isList (by simp only [List.size_toArray]; omega) ⟨H,I.tok _,by rw [isEmpty_of r]; exact q⟩
    . subst e'
      obtain ⟨its,r,pl,hz⟩:=I.tuple hx
      have hlen:=r.length
      exact truthy_tuple pl (by simp only [List.size_toArray]; omega) ⟨H,I.tok _,by rw [isEmpty_of r]; exact q⟩
    . subst e'
      obtain ⟨hz,hS,vs,r,m⟩:kvs.length <= sizeLine /\ (p == sysModules) = false /\ ∃ vs,KV kvs vs /\ s.heap.DictOf (mixKind X.prog X.w) p vs:=I.hok p _ hx
      have hlen:kvs.length = vs.length:=Paired.length r
      exact wpAny_truthy_dict hS m (by omega) ⟨H,I.tok _,by rw [isEmpty_kv r]; exact q⟩
  | _ => exact (show False from e).elim
theorem pt_truth (ha:PE X a ta) (he:∀ whole,isTrue a X.env whole = (do let v ← whole; standAt a.pos; holding [v] (truthy v))) :
    PT X a (fun σ H Q => ta σ H fun x H' => ∃ k,TruV X.K x H' k /\ Q k H'):=by
  intro pins s σ H Q I h
  exact isTrue_plain (thn (ha pins s σ H _ I h) fun v s1 ⟨x,H1,I1,r1,q1⟩ => tru_ok pins s1 σ H1 x v Q I1 r1 q1) (he _)
theorem op_add_str:OpR X (binaryOp .Add) (fun x y H Q => ∃ i j,x = .str i /\ y = .str j /\ i.length + j.length <= sizeLine /\ Q (.str (i ++ j)) H):=by
  intro pins s σ H x y v u Q I rx ry h
  obtain ⟨i,j,rfl,rfl,hz,q⟩:=h
  obtain ⟨t,rfl⟩:=rx
  obtain ⟨t',rfl⟩:=ry
  exact add_str (fun t' tk => ⟨.str (i ++ j),H,I.tok _,⟨_,rfl⟩,q⟩) hz
theorem vals1 {x:V} {us:List Value} (r:Vals [x] us):∃ u,us = [u] /\ RelV x u:=by
  cases r with
  | cons r1 r2 => cases r2; exact ⟨_,rfl,r1⟩
theorem vals2 {x y:V} {us:List Value} (r:Vals [x,y] us):∃ u w',us = [u,w'] /\ RelV x u /\ RelV y w':=by
  cases r with
  | cons r1 r2 =>
    cases r2 with
    | cons r3 r4 => cases r4; exact ⟨_,_,rfl,r1,r3⟩
theorem call_abs:CallR X (.builtin "abs") (fun xs H Q => ∃ i,xs = [.int i] /\ Q (.int (if i < 0 then -i else i)) H):=by
  intro pins s σ H xs us Q I r h
  obtain ⟨i,rfl,q⟩:=h
  obtain ⟨u,rfl,t,rfl⟩:=vals1 r
  exact call_abs_int fun u tk => ⟨.int (if i < 0 then -i else i),H,I.tok _,⟨_,rfl⟩,q⟩
theorem call_max2 (hc:X.calm = true):CallR X (.builtin "max") (fun xs H Q => ∃ i j,xs = [.int i,.int j] /\ Q (.int (if j > i then j else i)) H):=by
  intro pins s σ H xs us Q I r h
  obtain ⟨i,j,rfl,q⟩:=h
  obtain ⟨u,w',rfl,⟨t,rfl⟩,⟨t',rfl⟩⟩:=vals2 r
  refine max_two_ints (I.ok.hd hc) fun h' tk k => ⟨_,H,I.kept k,?_,q⟩
  by_cases hj:j > i
  . rw [if_pos hj,if_pos hj]; exact ⟨_,rfl⟩
  . rw [if_neg hj,if_neg hj]; exact ⟨_,rfl⟩
theorem call_min2 (hc:X.calm = true):CallR X (.builtin "min") (fun xs H Q => ∃ i j,xs = [.int i,.int j] /\ Q (.int (if j < i then j else i)) H):=by
  intro pins s σ H xs us Q I r h
  obtain ⟨i,j,rfl,q⟩:=h
  obtain ⟨u,w',rfl,⟨t,rfl⟩,⟨t',rfl⟩⟩:=vals2 r
  refine min_two_ints (I.ok.hd hc) fun h' tk k => ⟨_,H,I.kept k,?_,q⟩
  by_cases hj:j < i
  . rw [if_pos hj,if_pos hj]; exact ⟨_,rfl⟩
  . rw [if_neg hj,if_neg hj]; exact ⟨_,rfl⟩
noncomputable def LenV (K:PySem.W.Frag) (x:V) (H:Hp) (n:Nat):Prop :=
  match x with
  | .str y => y.length <= sizeLine /\ n = y.length
  | .byt y => y.size <= sizeLine /\ n = y.size
  | .ref p => (∃ xs,SqL K H p xs /\ n = xs.length) ∨ ∃ xs,SqT K H p xs /\ n = xs.length
  | _ => False
theorem call_len:CallR X (.builtin "len") (fun xs H Q => ∃ x n,xs = [x] /\ LenV X.K x H n /\ Q (.int n) H):=by
  intro pins s σ H xs us Q I r h
  obtain ⟨x,n,rfl,e,q⟩:=h
  obtain ⟨u,rfl,rx⟩:=vals1 r
  have hl:=line63
  have hs:sizeLine = 16777216:=sizeLine_eq
  cases x with
  | str y =>
    obtain ⟨t,rfl⟩:=rx
    obtain ⟨hy,e'⟩:y.length <= sizeLine /\ n = y.length:=e
    subst e'
    exact len_str (by omega) ⟨.int _,H,I.tok _,⟨_,rfl⟩,q⟩
  | byt y =>
    obtain ⟨t,rfl⟩:=rx
    obtain ⟨hy,e'⟩:y.size <= sizeLine /\ n = y.size:=e
    subst e'
    exact PySem.W.len_bytes (by omega) ⟨.int _,H,I.tok _,⟨_,rfl⟩,q⟩
  | ref p =>
    cases rx
    have e':(∃ xs,SqL X.K H p xs /\ n = xs.length) ∨ ∃ xs,SqT X.K H p xs /\ n = xs.length:=e
    rcases e' with ⟨xs,hx,e'⟩ | ⟨xs,hx,e'⟩
    . subst e'
      obtain ⟨its,r',pl,hz⟩:=I.list hx
      have hlen:=r'.length
      exact Calls.call_len_list pl.isList (by simp only [List.size_toArray]; omega) ⟨.int xs.length,H,I.tok _,⟨_,by simp only [List.size_toArray]; rw [hlen]⟩,q⟩
    . subst e'
      obtain ⟨its,r',pl,hz⟩:=I.tuple hx
      have hlen:=r'.length
      exact len_tuple pl (by simp only [List.size_toArray]; omega) ⟨.int xs.length,H,I.tok _,⟨_,by simp only [List.size_toArray]; rw [hlen]⟩,q⟩
  | _ => exact (show False from e).elim
end
end L2
namespace L2
open PySem PySem.Spec PyProof.Rows
structure ObjM (h:Heap) (x dx C:Addr) (mA:Str -> Option Value):Prop where
  obj:h.get? x = some (PySem.W.instObj C dx)
  ns:h.Ns1 dx mA
  ne:dx ≠ x
theorem lookIn_ns {h:Heap} {dx:Addr} {mA:Str -> Option Value} (n:h.Ns1 dx mA):∃ od,h.get? dx = some od /\ ∀ name,PySem.W.lookIn name od = some (mA name):=by
  obtain ⟨o,es,ep,ho,hd,hk,_,hm⟩:=n
  refine ⟨o,ho,fun name => ?_⟩
  have e:=hm name
  unfold nsFind findBy at e
  rw [← Array.find?_toList] at e
  unfold PySem.W.lookIn
  rw [hd]
  dsimp only
  split
  . rename_i y q
    rw [q] at e
    exact congrArg some e
  . rename_i q
    rw [q] at e
    have a:es.toList.any (·.refKey) = false:=by
      rw [List.any_eq_false]
      intro y hy
      obtain ⟨z,t,hkey⟩:=hk y (Array.mem_toList_iff.mp hy)
      simp [DictEntry.refKey,hkey]
    have a':¬ es.toList.any (·.refKey) = true:=by rw [a]; exact Bool.false_ne_true
    rw [if_neg a']
    exact congrArg some e
theorem ObjM.look {h:Heap} {x dx C:Addr} {mA:Str -> Option Value} (I:ObjM h x dx C mA):∃ od,PySem.W.InstAt h x (PySem.W.instObj C dx) C (some od) /\ ∀ name,PySem.W.lookIn name od = some (mA name) :=
  let ⟨od,ho,hl⟩:=lookIn_ns I.ns
  ⟨od,⟨I.obj,rfl,rfl,ho⟩,hl⟩
section
variable {prog:Program} {w:World} {A:Around} {E:Value -> Shared -> Prop} {s:Shared} {K:PySem.W.Frag} {x dx C f:Addr} {mA:Str -> Option Value} {name:Str} {v:Value}
end
theorem RelO.some_of {v:V} {o:Option Value} (r:RelO (some v) o):∃ u,o = some u /\ RelV v u:=by
  cases o with
  | none => exact (show False from r).elim
  | some u => exact ⟨u,rfl,r⟩
section
variable {P:Program} {w:World} {H H':Hp} {h h':Heap} {a C dx:Addr} {fs fs':List (Str×V)}
theorem ins_get (hok:HOk P w H h) (e:H a = some (.ins C dx fs)):∃ mA,ObjM h a dx C mA /\ (∀ f,RelO (fs.lookup f) (mA f)) /\ PySem.Within mA (fs.map (·.1)) /\ fs.length <= 1000 /\ H dx = some (.own a):=by
  obtain ⟨d,z,ne,ob,mA,n,r,q⟩:=(show ObjOk P w H h a (.ins C dx fs) from hok a _ e)
  exact ⟨mA,⟨ob,n,ne⟩,r,q,z,d⟩
end
structure Cls (K:PySem.W.Frag) (C:Addr):Prop where
  pg:PySem.W.plainGet K C Str.empty = true
  hd:PySem.W.hasDictIn K C = true
  po:PySem.W.plainOver K C = true
  sa:PySem.W.findIn K (.ref C) "__setattr__" = some (some (.builtin "object.__setattr__"))
theorem Cls.get {K:PySem.W.Frag} {C:Addr} (c:Cls K C) (f:Str):PySem.W.plainGet K C f = true:=c.pg
section
variable {X:Cx} {pins:List (Addr×Obj)} {σ:St} {H:Hp} {s:Shared} {a C dx:Addr} {fs:List (Str×V)} {f:Str} {v:V} {A:Around} {E:Value -> Shared -> Prop}
end
section
variable {X:Cx} {o e value:Expr} {f:Str} {pos pos' tpos:Pos} {ta tv:TE}
end
section
variable {X:Cx} {pins:List (Addr×Obj)} {σ:St} {H:Hp} {s:Shared} {A:Around} {E:Value -> Shared -> Prop} {Q:Value -> Shared -> Prop} {c:Value} {b:Bool}
inductive TyOf (K:PySem.W.Frag) (H:Hp):V -> Value -> Prop where
  | non:TyOf K H .non (.type "NoneType")
  | bl (x:Bool):TyOf K H (.bl x) (.type "bool")
  | int (i:Int):TyOf K H (.int i) (.type "int")
  | str (x:Str):TyOf K H (.str x) (.type "str")
  | flt (x:UInt64):TyOf K H (.flt x) (.type "float")
  | lst {a:Addr} {xs:List V} (e:H a = some (.lst xs)):TyOf K H (.ref a) (.type "list")
  | frz {a:Addr} {o:Obj} {xs:List V} (e:H a = some (.frz o (.lst xs))):TyOf K H (.ref a) (.type "list")
  | tup {a:Addr} {xs:List V} (e:H a = some (.tup xs)):TyOf K H (.ref a) (.type "tuple")
  | dK {a:Addr} {kvs:List (Key×V)} (e:H a = some (.dK kvs)):TyOf K H (.ref a) (.type "dict")
  | dT {a:Addr} {kvs:List (List Key×V)} (e:H a = some (.dT kvs)):TyOf K H (.ref a) (.type "dict")
  | ins {a C dx:Addr} {fs:List (Str×V)} (e:H a = some (.ins C dx fs)) (cl:Cls K C) (ha:PySem.W.findIn K (.ref C) "__class__" = some (some (.builtin "object.__class__")))
      (hn:PySem.W.specialIn K (.builtin "object.__class__") "__get__" = some (some (.builtin "getset_descriptor.__get__"))) (htk:PySem.W.takesIn K (.builtin "object.__class__") = some true)
      (hm:PySem.W.mroIn K C (.type "object") = some true):TyOf K H (.ref a) (.ref C)
theorem isinst_ok {x:V} {u t:Value} (I:Inv X pins σ H s) (rx:RelV x u) (ty:TyOf X.K H x t) (e:PySem.W.kitOne X.K t c = some b) (h:∀ tk,Q (.bool b) { s with toks:=tk }) :
    wpAny (model X.prog X.w) A (call (.builtin "isinstance") [u,c]) Q E s:=by
  cases ty with
  | non => cases (show u = Value.none from rx); exact PySem.W.kia_one PySem.W.kitx_none I.kIn True.intro e (fun z => nomatch z) h
  | bl y => cases (show u = Value.bool y from rx); exact PySem.W.kia_one PySem.W.kitx_bool I.kIn True.intro e (fun z => nomatch z) h
  | int i => obtain ⟨t,q⟩:=(show ∃ t,u = Value.int i t from rx); cases q; exact PySem.W.kia_one PySem.W.kitx_int I.kIn True.intro e (fun z => nomatch z) h
  | str y => obtain ⟨t,q⟩:=(show ∃ t,u = Value.str y t from rx); cases q; exact PySem.W.kia_one PySem.W.kitx_str I.kIn True.intro e (fun z => nomatch z) h
  | flt y => obtain ⟨t,q⟩:=(show ∃ t,u = Value.float y t from rx); cases q; exact PySem.W.kia_one PySem.W.kitx_float I.kIn True.intro e (fun z => nomatch z) h
  | @lst a xs ea =>
    cases (show u = Value.ref a from rx)
    obtain ⟨_,_,n,_,h1⟩:=(show ObjOk X.prog X.w H s.heap a (.lst xs) from I.hok a _ ea)
    exact PySem.W.kia_one PySem.W.kitx_list I.kIn ⟨_,h1,rfl⟩ e (fun z => nomatch z) h
  | @frz a ob xs ea =>
    cases (show u = Value.ref a from rx)
    obtain ⟨_,_,_,n,_,h1⟩:=(show ObjOk X.prog X.w H s.heap a (.frz ob (.lst xs)) from I.hok a _ ea)
    exact PySem.W.kia_one PySem.W.kitx_list I.kIn ⟨_,h1,rfl⟩ e (fun z => nomatch z) h
  | @tup a xs ea =>
    cases (show u = Value.ref a from rx)
    obtain ⟨_,_,_,p⟩:=(show ObjOk X.prog X.w H s.heap a (.tup xs) from I.hok a _ ea)
    obtain ⟨o,h1,h2,_⟩:=p
    exact PySem.W.kia_one PySem.W.kitx_tuple I.kIn ⟨o,h1,h2⟩ e (fun z => nomatch z) h
  | @dK a kvs ea =>
    cases (show u = Value.ref a from rx)
    obtain ⟨_,_,vs,_,p⟩:=(show ObjOk X.prog X.w H s.heap a (.dK kvs) from I.hok a _ ea)
    obtain ⟨o,es,ep,h1,h2,_⟩:=p
    exact PySem.W.kia_one PySem.W.kitx_dict I.kIn ⟨o,h1,h2.1⟩ e (fun z => nomatch z) h
  | @dT a kvs ea =>
    cases (show u = Value.ref a from rx)
    obtain ⟨_,_,xs,_,o,es,ep,h1,h2,_⟩:=(show ObjOk X.prog X.w H s.heap a (.dT kvs) from I.hok a _ ea)
    exact PySem.W.kia_one PySem.W.kitx_dict I.kIn ⟨o,h1,h2.1⟩ e (fun z => nomatch z) h
  | @ins a C dx fs ea cl ha hn htk hm =>
    cases (show u = Value.ref a from rx)
    obtain ⟨mA,O,_⟩:=ins_get I.hok ea
    obtain ⟨od,J,_⟩:=O.look
    exact PySem.W.kia_one (PySem.W.kitx_own (cl.get _) cl.hd ha hn htk hm) I.kIn J e (fun z => nomatch z) h
end
end L2
namespace L2
open PySem PySem.Spec PyProof.Rows
structure Room (k:Nat) (A:Around):Prop where
  hd:A.handled = none
  dp:A.depth + 3 * k + 5 < recursionLimit
  un:A.units + 16 * k + 200 < cLine
theorem Room.mono {j k:Nat} {A:Around} (r:Room k A) (h:j <= k):Room j A:=⟨r.hd,by have:=r.dp; omega,by have:=r.un; omega⟩
theorem Room.deeper {k:Nat} {A:Around} (r:Room (k + 1) A) (env:Env):Room k (A.deeper env) :=
  ⟨r.hd,by have:=r.dp; show A.depth + 1 + 3 * k + 5 < _; omega,by have:=r.un; show A.units + 3 + 16 * k + 200 < _; omega⟩
theorem Room.depth {k:Nat} {A:Around} (r:Room k A):A.depth < recursionLimit:=by have:=r.dp; omega
theorem Room.units {k:Nat} {A:Around} (r:Room k A):A.units + 64 < cLine:=by have:=r.un; omega
noncomputable def tNil:TA:=fun _ H Q => Q [] H
noncomputable def tCons (ta:TE) (tr:TA):TA:=fun σ H Q => ta σ H fun x H1 => tr σ H1 fun xs H2 => Q (x :: xs) H2
section
variable {X:Cx} {e:Expr} {es:List Expr} {te:TE} {t:TA} {pos:Pos}
theorem pa_nil:PA X [] tNil:=fun _ _ _ _ H Q I h => Calls.spliced_nil ⟨[],H,I,.nil,h⟩
theorem pa_cons (ha:PE X e te) (hr:PA X es t) (hs:starEach (e :: es) X.env = (false,eval e X.env) :: starEach es X.env:=by rfl):PA X (e :: es) (tCons te t):=by
  intro pos pins s σ H Q I h
  rw [hs]
  show wpAny _ _ (spliced ((false,eval e X.env) :: backTo pos (starEach es X.env))) _ _ s
  refine Calls.spliced_cons (thn (ha pins s σ H _ I h) fun u s1 ⟨x,H1,I1,r1,q1⟩ => ?_)
  exact thn (hr pos pins s1 σ H1 _ I1 q1) fun us s2 ⟨xs,H2,I2,r2,q2⟩ => ⟨x :: xs,H2,I2,.cons r1 r2,q2⟩
noncomputable def tTup (t:TA):TE:=fun σ H Q => t σ H fun xs H1 => xs.length <= sizeLine /\ ∀ p,H1 p = none -> Q (.ref p) (upd H1 p (.tup xs))
noncomputable def tLst (t:TA):TE:=fun σ H Q => t σ H fun xs H1 => xs.length <= sizeLine /\ ∀ p,H1 p = none -> Q (.ref p) (upd H1 p (.lst xs))
theorem pe_tup {x1} (h:PA X es t):PE X (.Tuple es x1 pos) (tTup t):=by
  intro pins s σ H Q I hq
  refine wpAny_Tuple_spliced (thn (h pos pins s σ H _ I hq) fun us s1 ⟨xs,H1,I1,r,z,q⟩ => ⟨by rw [← r.length]; exact z,?_⟩)
  have hf:H1 s1.heap.objs.size = none:=I1.hok.fresh (Nat.le_refl _)
  refine ⟨.ref s1.heap.objs.size,upd H1 s1.heap.objs.size (.tup xs),I1.laid (t':=s1.toks) (fun b u e => Heap.get?_push_of_some _ e) (Nat.le_refl _) ?_,rfl,q _ hf⟩
  exact ⟨z,us,r,⟨_,Heap.get?_push_size _ rfl,rfl,_,rfl⟩⟩
theorem pe_lst (h:PA X es t):PE X (.List es pos) (tLst t):=by
  intro pins s σ H Q I hq
  refine wpAny_List_spliced (thn (h pos pins s σ H _ I hq) fun us s1 ⟨xs,H1,I1,r,z,q⟩ => ⟨by rw [← r.length]; exact z,?_⟩)
  have hf:H1 s1.heap.objs.size = none:=I1.hok.fresh (Nat.le_refl _)
  refine ⟨.ref s1.heap.objs.size,upd H1 s1.heap.objs.size (.lst xs),I1.laid (t':=s1.toks) (fun b u e => Heap.get?_push_of_some _ e) (Nat.le_refl _) ?_,rfl,q _ hf⟩
  exact ⟨z,us,0,r,Heap.get?_push_size _ rfl⟩
end
noncomputable abbrev Sp:=List V -> Hp -> VK -> XK -> Prop
noncomputable abbrev CXT:=List Env -> Hp -> Shared -> XK -> Value -> Shared -> Prop
structure Env0 (P:Program) (w:World) (K:PySem.W.Frag) (mg:Str -> Option Value) (base:Heap) (A:Around) (outer:List Env) (s:Shared) (H:Hp):Prop where
  frames:A.frames = some outer
  mod:Mod K mg base
  bs:∀ b o,base.get? b = some o -> s.heap.get? b = some o /\ H b = none
  bsz:base.objs.size <= s.heap.objs.size
  funs:s.heap.FunFrames base outer
  frf:∀ b ∈ frs outer,H b = none
  hok:HOk P w H s.heap
  bare:AllBare s.gens
noncomputable def CE (outer:List Env) (P:Program) (w:World) (H:Hp) (s:Shared) (Q:VK) (u:Value) (s':Shared):Prop :=
  ∃ v H',s'.os = s.os /\ AllBare s'.gens /\ Un (frs outer) [] H H' s.heap s'.heap /\ HOk P w H' s'.heap /\ RelV v u /\ Q v H'
noncomputable def CR (CX:CXT) (outer:List Env) (P:Program) (w:World) (H:Hp) (s:Shared) (Q:VK) (E:XK) (r:Result) (s':Shared):Prop :=
  match r with
  | .ok (.ret u) => CE outer P w H s Q u s'
  | .ok _ => False
  | .error e => CX outer H s E e s'
structure FnOk (P:Program) (w:World) (K:PySem.W.Frag) (mg:Str -> Option Value) (base:Heap) (CX:CXT) (k:Nat) (f:Addr) (fd:FuncData) (ps:List Str) (sp:Sp):Prop where
  len:∀ vs H Q E,sp vs H Q E -> vs.length = ps.length
  run:∀ (A:Around) (outer:List Env) (s:Shared) (H:Hp) (args:Args) (us:List Value) (vs:List V) (Q:VK) (E:XK),Room k A -> Env0 P w K mg base A outer s H -> BindsTo s fd args (ps.zip us) -> Vals vs us -> sp vs H Q E ->
    codeAny (model P w) A (.call (.ref f) args) (CR CX outer P w H s Q E) s
theorem FnOk.mono {P:Program} {w:World} {K:PySem.W.Frag} {mg:Str -> Option Value} {base:Heap} {CX:CXT} {j k:Nat} {f:Addr} {fd:FuncData} {ps:List Str} {sp:Sp} (F:FnOk P w K mg base CX j f fd ps sp) (h:j <= k) :
    FnOk P w K mg base CX k f fd ps sp:=⟨F.len,fun A outer s H args us vs Q E hr => F.run A outer s H args us vs Q E (hr.mono h)⟩
section
variable {X:Cx} {pins:List (Addr×Obj)} {σ:St} {H:Hp} {s s':Shared}
theorem Inv.env0 (I:Inv X pins σ H s):Env0 X.prog X.w X.K X.mg X.base X.A X.stack s H :=
  ⟨I.ok.frames,I.ok.mod,I.bs,Nat.le_trans I.ok.bsz I.sz,I.stack,I.stkFree,I.hok,I.bare⟩
theorem Inv.after {Q:VK} {u:Value} (I:Inv X pins σ H s) (h:CE X.stack X.prog X.w H s Q u s'):EP X pins σ Q u s':=by
  obtain ⟨v,H',os,bare,un,hok,r,q⟩:=h
  obtain ⟨hh,g,d,t,os'⟩:=s'
  obtain rfl:os' = s.os:=os
  exact ⟨v,H',I.call (h':=hh) (g':=g) (d':=d) (t':=t) (ch:=[]) un hok bare (fun b z => absurd z (by simp)),r,q⟩
end
noncomputable def tCall (sp:Sp) (dvs:List V) (E:XK) (t:TA):TE:=fun σ H Q => t σ H fun vs H1 => sp (vs ++ dvs) H1 Q E
noncomputable def Binds (K:PySem.W.Frag) (fd:FuncData) (ps:List Str) (ds:List Value):Prop :=
  ∀ (s:Shared) (us:List Value),K.In s.heap -> (us ++ ds).length = ps.length -> BindsTo s fd ⟨us,[]⟩ (ps.zip (us ++ ds))
theorem Binds.all {K:PySem.W.Frag} {fd:FuncData} {ps:List Str} (h:∀ us:List Value,us.length = ps.length -> bindArgs fd ⟨us,[]⟩ = pure (ps.zip us)):Binds K fd ps []:=fun s us _ hl => by
  rw [List.append_nil] at hl ⊢
  exact .of_eq (h us hl)
noncomputable def Passes (CX:CXT) (X:Cx) (E:XK):Prop:=∀ (pins:List (Addr×Obj)) (σ:St) (H:Hp) (s:Shared) (e:Value) (s':Shared),Inv X pins σ H s -> CX X.stack H s E e s' -> X.xe e s'
section
variable {X:Cx} {CX:CXT} {k:Nat} {f C:Addr} {fd:FuncData} {ps:List Str} {sp:Sp} {dvs:List V} {ds:List Value} {E:XK} {x m:Str} {p pos apos:Pos} {e o:Expr} {es:List Expr} {ta:TE} {t:TA}
theorem run_fn {pins:List (Addr×Obj)} {σ:St} {H:Hp} {s:Shared} {Q:VK} {us:List Value} {vs:List V} (F:FnOk X.prog X.w X.K X.mg X.base CX k f fd ps sp) (hr:Room k X.A) (hb:Binds X.K fd ps ds) (hd:Vals dvs ds) (hx:Passes CX X E)
    (I:Inv X pins σ H s) (r:Vals vs us) (h:sp (vs ++ dvs) H Q E):wpAny (model X.prog X.w) X.A (call (.ref f) us) (EP X pins σ Q) X.xe s:=by
  have r2:Vals (vs ++ dvs) (us ++ ds):=r.append hd
  have hl:(us ++ ds).length = ps.length:=by rw [← r2.length]; exact F.len _ _ _ _ h
  refine wpAny_call (codeAny_mono (F.run X.A X.stack s H ⟨us,[]⟩ (us ++ ds) (vs ++ dvs) Q E hr I.env0 (hb s us I.kIn hl) r2 h) fun r s' hq => ?_)
  cases r with
  | error e => exact hx pins σ H s e s' I hq
  | ok fl =>
    cases fl with
    | ret u => exact I.after hq
    | next => exact False.elim hq
    | brk => exact False.elim hq
    | cont => exact False.elim hq
theorem pe_call (F:FnOk X.prog X.w X.K X.mg X.base CX k f fd ps sp) (hr:Room k X.A) (hg:Gl X x) (hm:X.mg x = some (.ref f)) (hk:PySem.W.keepIn X.K (.ref f) = true) (hb:Binds X.K fd ps ds) (hd:Vals dvs ds) (hx:Passes CX X E)
    (ha:PA X (e :: es) t) (hdb:(x == ("__debug__":Str)) = false:=by decide) (he:starEach (e :: es) X.env = (false,eval e X.env) :: starEach es X.env:=by rfl) (hpl:(backTo pos (starEach es X.env)).any (·.1) = false:=by rfl) :
    PE X (.Call (.Name x p) (e :: es) [] pos) (tCall sp dvs E t):=by
  intro pins s σ H Q I h
  refine wpAny_Call_Name_kw (ld_glob I hg hm ?_ hdb)
  refine PySem.W.callWith_K (h₀:=X.base) I.ok.mod.kin hk (thn (ha pos pins s σ H _ I h) fun us s1 ⟨vs,H1,I1,r,q⟩ => ⟨I1.kIn,?_⟩) he hpl
  exact run_fn F hr hb hd hx I1 r q
end
section
variable {X:Cx} {CX:CXT} {k:Nat} {f C:Addr} {fd:FuncData} {ps ks:List Str} {sp:Sp} {E:XK} {x m:Str} {p pos apos kpos:Pos} {e o:Expr} {es:List Expr} {kws:List Keyword} {te ta:TE} {t tk:TA} {nm:Option Str}
structure KBinds (K:PySem.W.Frag) (fd:FuncData) (ps ks:List Str) (g:List Value -> List Value -> List Value) (gV:List V -> List V -> List V):Prop where
  to:∀ (s:Shared) (us ws:List Value),K.In s.heap -> (g us ws).length = ps.length -> BindsTo s fd ⟨us,ks.zip ws⟩ (ps.zip (g us ws))
  rel:∀ {vs:List V} {us:List Value} {zs:List V} {ws:List Value},Vals vs us -> Vals zs ws -> Vals (gV vs zs) (g us ws)
variable {g:List Value -> List Value -> List Value} {gV:List V -> List V -> List V}
end
structure FnScope (N P:List Str) (sc:Scope):Prop where
  kind:sc.kind = .function
  co:sc.isCoroutine = false
  gen:sc.isGenerator = false
  nd:N.Nodup
  pre:N.take P.length = P
  par:∀ x ∈ P,sc.names.lookup x = some .local ∨ sc.names.lookup x = some .cell
  nofree:∀ y ∈ sc.names,y.2 ≠ .free
theorem bindL_out {kindOf:Str -> Option NameKind} {x:Str}:∀ {binds:List (Str×Value)} {m:Str -> Option Value},(∀ v,(x,v) ∉ binds) -> bindL kindOf binds m x = m x
  | [],_,_ => rfl
  | (n,v) :: r,m,h => by
    unfold bindL
    rw [bindL_out fun w hw => h w (List.mem_cons_of_mem _ hw)]
    split
    . have:x ≠ n:=by rintro rfl; exact h v List.mem_cons_self
      simp [this]
    . rfl
theorem bindC_out {kindOf:Str -> Option NameKind} {x:Str}:∀ {binds:List (Str×Value)} {m:Str -> Option Value},(∀ v,(x,v) ∉ binds) -> bindC kindOf binds m x = m x
  | [],_,_ => rfl
  | (n,v) :: r,m,h => by
    unfold bindC
    rw [bindC_out fun w hw => h w (List.mem_cons_of_mem _ hw)]
    split
    . rfl
    . have:x ≠ n:=by rintro rfl; exact h v List.mem_cons_self
      simp [this]
theorem bindL_get {kindOf:Str -> Option NameKind} {x:Str} {v:Value}:∀ {P:List Str} {vs:List Value} {i:Nat} {m:Str -> Option Value},P.Nodup -> P[i]? = some x -> vs[i]? = some v -> kindOf x = some .local ->
    bindL kindOf (P.zip vs) m x = some v
  | [],_,_,_,_,h,_,_ => by simp at h
  | _ :: _,[],_,_,_,_,h,_ => by simp at h
  | p :: P,w :: vs,0,m,nd,h1,h2,hk => by
    simp at h1 h2; subst h1; subst h2
    show bindL kindOf ((p,w) :: P.zip vs) m p = _
    unfold bindL
    rw [bindL_out fun v hv => (List.nodup_cons.mp nd).1 (List.of_mem_zip hv).1,if_pos hk]
    simp
  | p :: P,w :: vs,i + 1,m,nd,h1,h2,hk => by
    show bindL kindOf ((p,w) :: P.zip vs) m x = _
    unfold bindL
    exact bindL_get (i:=i) (List.nodup_cons.mp nd).2 (by simpa using h1) (by simpa using h2) hk
theorem bindC_get {kindOf:Str -> Option NameKind} {x:Str} {v:Value}:∀ {P:List Str} {vs:List Value} {i:Nat} {m:Str -> Option Value},P.Nodup -> P[i]? = some x -> vs[i]? = some v -> kindOf x ≠ some .local ->
    bindC kindOf (P.zip vs) m x = some v
  | [],_,_,_,_,h,_,_ => by simp at h
  | _ :: _,[],_,_,_,_,h,_ => by simp at h
  | p :: P,w :: vs,0,m,nd,h1,h2,hk => by
    simp at h1 h2; subst h1; subst h2
    show bindC kindOf ((p,w) :: P.zip vs) m p = _
    unfold bindC
    rw [bindC_out fun v hv => (List.nodup_cons.mp nd).1 (List.of_mem_zip hv).1,if_neg hk]
    simp
  | p :: P,w :: vs,i + 1,m,nd,h1,h2,hk => by
    show bindC kindOf ((p,w) :: P.zip vs) m x = _
    unfold bindC
    exact bindC_get (i:=i) (List.nodup_cons.mp nd).2 (by simpa using h1) (by simpa using h2) hk
noncomputable def start (N:List Str) (vs:List V):St:=vs.map some ++ List.replicate (N.length - vs.length) none
noncomputable def cxOf (CX:CXT) (P:Program) (w:World) (K:PySem.W.Frag) (mg:Str -> Option Value) (base:Heap) (N:List Str) (qual:Str) (scope:Scope) (f:Addr) (cd:Value) (A:Around) (outer:List Env) (s:Shared) (H:Hp) (E:XK):Cx where
  prog:=P
  w:=w
  K:=K
  mg:=mg
  base:=base
  A:=A.deeper (envOfC qual scope s.heap.objs.size f cd)
  N:=N
  s₀:=s
  H₀:=H
  env:=envOfC qual scope s.heap.objs.size f cd
  outer:=outer
  stack:=envOfC qual scope s.heap.objs.size f cd :: outer
  ex:=[]
  calm:=true
  fn:=fun _ => true
  pn:=[]
  xe:=fun e s' => wpAny (model P w) (A.deeper (envOfC qual scope s.heap.objs.size f cd)) (leaving (envOfC qual scope s.heap.objs.size f cd) e) (fun _ s'' => CX outer H s E e s'') (fun e' s'' => CX outer H s E e' s'') s'
theorem cell_has {sc:Scope} {n:Nat} {x:Str} (h:sc.names.lookup x = some .cell):∃ c,(cellsFrom n sc.names []).lookup x = some c:=by
  have q:=PySem.W.cellsFrom_some sc.names n [] (.inl h)
  exact Option.isSome_iff_exists.mp q
theorem inv_start {CX:CXT} {P:Program} {w:World} {K:PySem.W.Frag} {mg:Str -> Option Value} {base:Heap} {N ps:List Str} {qual:Str} {scope:Scope} {f:Addr} {cd:Value} {A:Around} {outer:List Env} {s s1:Shared} {H:Hp} {E:XK} {us:List Value} {vs:List V}
    (S:FnScope N ps scope) (hd:A.handled = none) (e0:Env0 P w K mg base A outer s H) (hl:vs.length = ps.length) (r:Vals vs us)
    (x:InCallC s s.heap.objs.size (bindL (envOfC qual scope s.heap.objs.size f cd).kindOf (ps.zip us) fun _ => none) (cellsFrom (s.heap.objs.size + 1) scope.names []) (bindC (envOfC qual scope s.heap.objs.size f cd).kindOf (ps.zip us) fun _ => none) s1) :
    Inv (cxOf CX P w K mg base N qual scope f cd A outer s H E) [] (start N vs) H s1:=by
  have hpl:ps.length <= N.length:=by have:=congrArg List.length S.pre; rw [List.length_take] at this; omega
  obtain ⟨h1,tk,rfl,hk⟩:=x.done
  have noA:∀ b:Addr,b ∉ (cxOf CX P w K mg base N qual scope f cd A outer s H E).ex:=fun b z => absurd (show b ∈ ([]:List Addr) from z) (by simp)
  refine ⟨⟨e0.mod,S.kind,rfl,rfl,Nat.le_refl _,fun y z c h1 h2 => ?_,fun y hy => ?_,fun y c _ h => ?_,fun _ => hd,Around.frames_deeper e0.frames,.inr ⟨rfl,rfl⟩,fun b z => absurd z (noA b),e0.bs,e0.bsz,fun b _ _ => noA b,fun b z => absurd z (noA b),e0.funs,e0.frf⟩,
    rfl,e0.bare,Un.kept hk,⟨_,x.toInCall.ns,fun i y v h1 h2 h3 => ?_⟩,fun y c h => ⟨_,x.cell y c h⟩,e0.hok.fresh (Nat.le_refl _),fun y c h => ?_,fun p hp => absurd (show p ∈ ([]:List (Addr×Obj)) from hp) (by simp),e0.hok.kept hk,?_⟩
  . exact name_of_addr x.apart (PySem.mem_of_lookup h1) (PySem.mem_of_lookup h2)
  . have hy:scope.names.lookup y = some .cell ∨ scope.names.lookup y = some .free:=hy
    rcases hy with hy | hy
    . exact cell_has hy
    . exact absurd rfl (S.nofree _ (PySem.mem_of_lookup hy))
  . exact Nat.le_of_lt (x.above y c (PySem.mem_of_lookup h))
  . have hi:i < vs.length:=by
      unfold start at h2
      by_cases hi:i < vs.length
      . exact hi
      . rw [List.getElem?_append_right (by simpa using hi)] at h2
        rw [List.getElem?_replicate] at h2
        split at h2 <;> cases h2
    have ha:vs[i]? = some v:=by
      unfold start at h2
      rw [List.getElem?_append_left (by simpa using hi),List.getElem?_map] at h2
      cases e:vs[i]? with
      | none => rw [e] at h2; cases h2
      | some a => rw [e] at h2; cases h2; rfl
    obtain ⟨u,hu,rv⟩:=r.get ha
    have hp:ps[i]? = some y:=by
      rw [← S.pre,List.getElem?_take_of_lt (by omega)]; exact h1
    have ndP:ps.Nodup:=by rw [← S.pre]; exact S.nd.sublist (List.take_sublist _ _)
    refine ⟨u,rv,?_⟩
    rcases S.par y (List.mem_of_getElem? hp) with k | k
    . exact .inl ⟨k,bindL_get ndP hp hu k⟩
    . obtain ⟨c,e⟩:=cell_has (n:=s.heap.objs.size + 1) k
      refine .inr ⟨.inl k,c,e,?_⟩
      have q:=x.cell y c e
      rw [bindC_get ndP hp hu (by show scope.names.lookup y ≠ _; rw [k]; decide)] at q
      exact q
  . exact e0.hok.fresh (Nat.le_of_lt (x.above y c (PySem.mem_of_lookup h)))
  . unfold start
    show _ = N.length
    rw [List.length_append,List.length_map,List.length_replicate]
    omega
theorem fn_of {CX:CXT} {P:Program} {w:World} {K:PySem.W.Frag} {mg:Str -> Option Value} {base:Heap} {k:Nat} {f:Addr} {name qual:Str} {params:Arguments} {body:List Stmt} {scope:Scope} {dV kV doc pm cdv ct oc:Value} {an od:Option Addr}
    {osl:Array (Option Value)} {N ps:List Str} {sp:Sp} (lk:K.lookup f = some ⟨oc,od,.func (PySem.W.fnOf name qual params body scope dV kV doc pm an cdv ct),osl⟩) (hcd:PySem.W.codeIn K cdv qual = true) (S:FnScope N ps scope)
    (len:∀ vs H Q E,sp vs H Q E -> vs.length = ps.length)
    (hbody:∀ (A:Around) (outer:List Env) (s:Shared) (H:Hp) (vs:List V) (Q:VK) (E:XK),Room k (A.deeper (envOfC qual scope s.heap.objs.size f cdv)) -> sp vs H Q E ->
      ∃ t,PSs (cxOf CX P w K mg base N qual scope f cdv A outer s H E) body t /\ t { nx:=fun _ H' => Q .non H',rt:=Q } (start N vs) H) :
    FnOk P w K mg base CX (k + 1) f (PySem.W.fnOf name qual params body scope dV kV doc pm an cdv ct) ps sp:=by
  refine ⟨len,fun A outer s H args us vs Q E hr e0 hb r hsp => ?_⟩
  have hl:=len _ _ _ _ hsp
  have KX:K.In s.heap:=e0.mod.kin.keeps fun b o e => (e0.bs b o e).1
  have lim:s.heap.NoLimit:=e0.mod.nolimit.keeps fun b o e => (e0.bs b o e).1
  have hkind:∀ y ∈ ps.zip us,scope.names.lookup y.1 = some .local ∨ (scope.names.lookup y.1 = some .cell /\ ((cellsFrom (s.heap.objs.size + 1) scope.names []).lookup y.1).isSome = true):=fun ⟨n,v⟩ hy => by
    rcases S.par n (List.of_mem_zip hy).1 with q | q
    . exact .inl q
    . exact .inr ⟨q,PySem.W.cellsFrom_some _ _ _ (.inl q)⟩
  refine codeAny_call_function hr.depth (KX _ _ lk) rfl S.co S.gen rfl (PySem.W.codeRec_of KX hcd) (hb _ _ _ _ ?_)
  refine wpAny_newFunctionEnv_cells S.kind hkind fun env he s1 x => ?_
  subst he
  refine ⟨lim.keeps x.toInCall.keep,codeAny_func ?_⟩
  obtain ⟨t,ht,hq⟩:=hbody A outer s H vs Q E (hr.deeper _) hsp
  have I:Inv (cxOf CX P w K mg base N qual scope f cdv A outer s H E) [] (start N vs) H s1:=inv_start S hr.hd e0 hl r x
  refine wpAny_mono (ht [] s1 (start N vs) H _ I hq) (fun fl s' hs => ?_) fun e s' hs => hs
  have fin:∀ {σ':St} {H':Hp} {v:V} {u:Value},Inv (cxOf CX P w K mg base N qual scope f cdv A outer s H E) [] σ' H' s' -> RelV v u -> Q v H' -> CE outer P w H s Q u s' :=
    fun {σ' H' v u} J rv q => ⟨v,H',J.os,J.bare,J.base,J.hok,rv,q⟩
  cases fl with
  | ret u =>
    obtain ⟨v,σ',H',J,rv,q⟩:=hs
    exact fin J rv q
  | next =>
    obtain ⟨σ',H',J,q⟩:=hs
    exact fin (v:=V.non) (u:=Value.none) J rfl q
  | brk =>
    obtain ⟨_,_,_,q⟩:=hs
    exact False.elim q
  | cont =>
    obtain ⟨_,_,_,q⟩:=hs
    exact False.elim q
end L2
namespace L2
open PySem PySem.Spec PyProof.Rows
section
variable {X:Cx} {x:Str} {p pos:Pos} {e:Expr} {es:List Expr} {t:TA} {id T:String} {r:List V -> Hp -> VK -> Prop}
noncomputable def tCB (r:List V -> Hp -> VK -> Prop) (t:TA):TE:=fun σ H Q => t σ H fun vs H1 => r vs H1 Q
theorem pe_callB (hc:CallR X (.builtin id) r) (hg:Gl X x) (hm:X.mg x = none) (hv:bootBuiltins x = some (.builtin id)) (ha:PA X (e :: es) t) (hn:x ≠ "__name__":=by decide) (hdb:(x == ("__debug__":Str)) = false:=by decide)
    (he:starEach (e :: es) X.env = (false,eval e X.env) :: starEach es X.env:=by rfl) (hpl:(backTo pos (starEach es X.env)).any (·.1) = false:=by rfl):PE X (.Call (.Name x p) (e :: es) [] pos) (tCB r t):=by
  intro pins s σ H Q I h
  refine wpAny_Call_Name_kw (ld_blt I hg hm hv ?_ hn hdb)
  exact PyProof.Rows.callWith_builtin1 (thn (ha pos pins s σ H _ I h) fun us s1 ⟨vs,H1,I1,r1,q1⟩ => hc pins s1 σ H1 vs us Q I1 r1 q1) he hpl
theorem pe_callTy (hc:CallR X (.type T) r) (hg:Gl X x) (hm:X.mg x = none) (hv:bootBuiltins x = some (.type T)) (ha:PA X (e :: es) t) (hn:x ≠ "__name__":=by decide) (hdb:(x == ("__debug__":Str)) = false:=by decide)
    (he:starEach (e :: es) X.env = (false,eval e X.env) :: starEach es X.env:=by rfl) (hpl:(backTo pos (starEach es X.env)).any (·.1) = false:=by rfl):PE X (.Call (.Name x p) (e :: es) [] pos) (tCB r t):=by
  intro pins s σ H Q I h
  refine wpAny_Call_Name_kw (ld_blt I hg hm hv ?_ hn hdb)
  exact PyProof.Rows.callWith_type1 (thn (ha pos pins s σ H _ I h) fun us s1 ⟨vs,H1,I1,r1,q1⟩ => hc pins s1 σ H1 vs us Q I1 r1 q1) he hpl
end
end L2
namespace HT
open PySem PyProof.Rows
section
open PySem.SeqAt
open PySem.AutoSeq1 (wpAny_loadPart')
open PySem.MeetsSeq PySem.MeetsSeq2 PySem.MeetsSeq3
end
section
variable {prog:Program} {w:World} {A:Around} {E:Value -> Shared -> Prop} {s:Shared}
theorem cat_tup {t b:Addr} {vs ws:List Value} {Q:Value -> Shared -> Prop} (ht:IsTup s.heap t vs.toArray) (hb:IsTup s.heap b ws.toArray) (hv:vs ≠ [])
    (h1:ws = [] -> Q (.ref t) s) (h2:ws ≠ [] -> Q (.ref s.heap.objs.size) { s with heap:=s.heap.push { cls:=.type "tuple",data:=.seq (vs ++ ws).toArray } })
    (hsz:vs.length + ws.length <= sizeLine):wpAny (model prog w) A (binaryOp .Add (.ref t) (.ref b)) Q E s:=by
  obtain ⟨⟨cls,dd,data,sl⟩,ho,hc,n,hd⟩:=id ht
  obtain ⟨⟨cls2,dd2,data2,sl2⟩,ho2,hc2,n2,hd2⟩:=id hb
  simp only at hc hd hc2 hd2
  subst hc hd hc2 hd2
  have e:vs.toArray ++ ws.toArray = (vs ++ ws).toArray:=by simp
  by_cases hw:ws = []
  . exact concat_meets ⟨_,ho,rfl⟩ ⟨_,ho2,rfl⟩ noFill_tuple_add seq_tuple_add PySem.F.slot_tuple_add PySem.F.entry_tuple_add (PySem.F.args_tuple_add_2 _ _)
      (tuple_addW1 t b vs.toArray ws.toArray n n2 dd dd2 sl sl2 (by simpa using hv) (by simp [hw])) ⟨ho,ho2,h1 hw⟩
  . refine concat_meets ⟨_,ho,rfl⟩ ⟨_,ho2,rfl⟩ noFill_tuple_add seq_tuple_add PySem.F.slot_tuple_add PySem.F.entry_tuple_add (PySem.F.args_tuple_add_2 _ _)
      (tuple_addW2 t b vs.toArray ws.toArray n n2 dd dd2 sl sl2 (by simpa using hv) (by simpa using hw) (by rw [List.size_toArray,List.size_toArray]; exact hsz)) ⟨ho,ho2,?_⟩
    rw [e]
    exact h2 hw
end
end HT
namespace L2
open PySem PySem.Spec PyProof.Rows
noncomputable abbrev TO:=St -> Hp -> (Option Int -> Hp -> Prop) -> Prop
noncomputable def PO (X:Cx) (e:Option Expr) (t:TO):Prop :=
  ∀ (pins:List (Addr×Obj)) (s:Shared) (σ:St) (H:Hp) (Q:Option Int -> Hp -> Prop),Inv X pins σ H s -> t σ H Q ->
    wpAny (model X.prog X.w) X.A (evalPart e X.env) (fun u s' => ∃ o H',Inv X pins σ H' s' /\ IsPart u o /\ Q o H') X.xe s
noncomputable def tNoPart:TO:=fun _ H Q => Q none H
noncomputable def tPart (t:TE):TO:=fun σ H Q => t σ H fun x H1 => ∃ i,x = .int i /\ Q (some i) H1
section
variable {X:Cx} {e:Expr} {te:TE} {lo hi:Option Expr} {tl th:TO} {pos p2:Pos}
theorem po_none:PO X none tNoPart:=by
  intro pins s σ H Q I h
  rw [evalPart_none]
  exact wpAny_pure ⟨none,H,I,.none,h⟩
theorem po_some (h:PE X e te):PO X (some e) (tPart te):=by
  intro pins s σ H Q I hw
  rw [evalPart_some]
  refine thn (h pins s σ H _ I hw) fun u s1 ⟨x,H1,I1,r1,q1⟩ => ?_
  obtain ⟨i,rfl,q⟩:=q1
  obtain ⟨t,rfl⟩:=r1
  exact ⟨some i,H1,I1,.int i t,q⟩
noncomputable def SlR (X:Cx) (r:V -> Option Int -> Option Int -> Hp -> VK -> Prop):Prop :=
  ∀ (pins:List (Addr×Obj)) (s:Shared) (σ:St) (H:Hp) (x:V) (v vl vu:Value) (lo hi:Option Int) (sl:Addr) (Q:VK),Inv X pins σ H s -> RelV x v -> s.heap.IsSliceOf sl vl vu .none -> IsPart vl lo -> IsPart vu hi -> r x lo hi H Q ->
    ∃ T id,typeLookup (.type T) "__getitem__" = pure (some (.builtin id)) /\ s.TypeIs v T /\ wpAny (model X.prog X.w) X.A (getItem v (.ref sl)) (EP X pins σ Q) X.xe s
noncomputable def tSl (r:V -> Option Int -> Option Int -> Hp -> VK -> Prop) (te:TE) (tl th:TO):TE:=fun σ H Q => te σ H fun x H1 => tl σ H1 fun l H2 => th σ H2 fun u H3 => r x l u H3 Q
theorem pe_slice {r:V -> Option Int -> Option Int -> Hp -> VK -> Prop} (hr:SlR X r) (he:PE X e te) (hl:PO X lo tl) (hu:PO X hi th):PE X (.Subscript e (.Slice lo hi none p2) pos) (tSl r te tl th):=by
  intro pins s σ H Q I h
  refine Subscript_ (thn (he pins s σ H _ I h) fun v s1 ⟨x,H1,I1,r1,q1⟩ => ?_)
  refine wpAny_Slice (thn (hl pins s1 σ H1 _ I1 q1) fun vl s2 ⟨l,H2,I2,pl,q2⟩ => thn (hu pins s2 σ H2 _ I2 q2) fun vu s3 ⟨u,H3,I3,pu,q3⟩ => ?_)
  rw [evalPart_none]
  refine wpAny_pure ?_
  have I4:Inv X pins σ H3 { s3 with heap:=s3.heap.push { cls:=.type "slice",data:=.fields #[vl,vu,.none] } }:=I3.kept (t':=s3.toks) fun b ob q => Heap.get?_push_of_some _ q
  obtain ⟨T,id,hT,ht,hg⟩:=hr pins { s3 with heap:=s3.heap.push { cls:=.type "slice",data:=.fields #[vl,vu,.none] } } σ H3 x v vl vu l u s3.heap.objs.size Q I4 r1 (Heap.IsSliceOf.new ..) pl pu q3
  show wpAny (model X.prog X.w) X.A (subscriptTail e (.Slice lo hi none p2) v (.ref s3.heap.objs.size)) (EP X pins σ Q) X.xe { s3 with heap:=s3.heap.push { cls:=.type "slice",data:=.fields #[vl,vu,.none] } }
  exact tail_any (ops:=[.ref s3.heap.objs.size,v]) ht hT hg (by with_unfolding_all rfl)
noncomputable def rCatT (K:PySem.W.Frag):R2:=fun x y H Q => ∃ a b xs ys,x = .ref a /\ y = .ref b /\ SqT K H a xs /\ SqT K H b ys /\ xs ≠ [] /\ xs.length + ys.length <= sizeLine /\
  (ys = [] -> Q (.ref a) H) /\ (ys ≠ [] -> ∀ p,H p = none -> Q (.ref p) (upd H p (.tup (xs ++ ys))))
theorem Vals.nil_iff {xs:List V} {us:List Value} (r:Vals xs us):us = [] ↔ xs = []:=by
  cases r with
  | nil => simp
  | cons _ _ => simp
theorem op_catT:OpR X (binaryOp .Add) (rCatT X.K):=by
  intro pins s σ H x y v u Q I rx ry h
  obtain ⟨a,b,xs,ys,rfl,rfl,ha,hb,hx,hz,q1,q2⟩:=h
  cases rx
  cases ry
  obtain ⟨its,r1,p1,_⟩:=I.tuple ha
  obtain ⟨its2,r2,p2,_⟩:=I.tuple hb
  refine HT.cat_tup p1 p2 (fun z => hx (r1.nil_iff.mp z)) (fun z => ⟨.ref a,H,I,rfl,q1 (r2.nil_iff.mp z)⟩) (fun z => ?_) (by rw [← r1.length,← r2.length]; exact hz)
  refine ⟨.ref s.heap.objs.size,_,I.laid (t':=s.toks) (o:=.tup (xs ++ ys)) (fun b ob q => Heap.get?_push_of_some _ q) (Nat.le_refl _) ?_,rfl,q2 (fun w => z (r2.nil_iff.mpr w)) _ (I.hok.fresh (Nat.le_refl _))⟩
  exact ⟨by rw [List.length_append]; exact hz,_,r1.append r2,IsTup.new _ _⟩
end
end L2
namespace L2
open PySem PySem.Spec PyProof.Rows
noncomputable def ixN (n:Nat) (i:Int):Option Nat:=if 0 <= i then (if i < n then some i.toNat else none) else if -(n:Int) <= i then some (i + n).toNat else none
noncomputable def atI {α:Type} (xs:List α) (i:Int):Option α:=(ixN xs.length i).bind fun j => xs[j]?
theorem ixN_seq {n:Nat} {i:Int} {j:Nat} (h:ixN n i = some j):seqIndex? i n = some j /\ j < n /\ -(n:Int) <= i /\ i < n:=by
  unfold ixN at h
  by_cases h0:0 <= i
  . rw [if_pos h0] at h
    by_cases h1:i < n
    . rw [if_pos h1] at h
      have e:i.toNat = j:=Option.some.inj h
      exact ⟨by rw [seqIndex_of h0 h1,e],by omega,by omega,h1⟩
    . rw [if_neg h1] at h; cases h
  . rw [if_neg h0] at h
    by_cases h1:-(n:Int) <= i
    . rw [if_pos h1] at h
      have e:(i + n).toNat = j:=Option.some.inj h
      exact ⟨by rw [seqIndex_neg (by omega) h1,e],by omega,h1,by omega⟩
    . rw [if_neg h1] at h; cases h
theorem atI_get {α:Type} {xs:List α} {i:Int} {v:α} (h:atI xs i = some v):∃ j,seqIndex? i xs.length = some j /\ xs[j]? = some v /\ j < xs.length /\ -(xs.length:Int) <= i /\ i < xs.length:=by
  unfold atI at h
  cases e:ixN xs.length i with
  | none => rw [e] at h; cases h
  | some j =>
    rw [e] at h
    obtain ⟨h1,h2,h3,h4⟩:=ixN_seq e
    exact ⟨j,h1,h,h2,h3,h4⟩
theorem atI_nat {α:Type} {xs:List α} {j:Nat} {v:α} (h:xs[j]? = some v):atI xs (j:Int) = some v:=by
  have hj:j < xs.length:=(List.getElem?_eq_some_iff.mp h).1
  have e:ixN xs.length (j:Int) = some j:=by
    unfold ixN
    rw [if_pos (by omega),if_pos (by omega)]; simp
  unfold atI; rw [e]; exact h
noncomputable def PlainIx (b:Expr):Prop:=∀ o i,subscripted b false o i = operate [o,i] (getItem o i)
noncomputable def IxR (X:Cx) (r:R2):Prop :=
  ∀ (value slice:Expr) (pins:List (Addr×Obj)) (s:Shared) (σ:St) (H:Hp) (x y:V) (v u:Value) (Q:VK),Inv X pins σ H s -> RelV x v -> RelV y u -> r x y H Q ->
    subscripted slice false v u = operate [v,u] (getItem v u) -> wpAny (model X.prog X.w) X.A (subscriptTail value slice v u) (EP X pins σ Q) X.xe s
noncomputable def MtR (X:Cx) (id:String) (r:V -> List V -> Hp -> VK -> Prop):Prop :=
  ∀ (pins:List (Addr×Obj)) (s:Shared) (σ:St) (H:Hp) (x:V) (xs:List V) (v:Value) (us:List Value) (Q:VK),Inv X pins σ H s -> RelV x v -> Vals xs us -> r x xs H Q ->
    wpAny (model X.prog X.w) X.A (call (.builtin id) (v :: us)) (EP X pins σ Q) X.xe s
section
variable {X:Cx} {a b:Expr} {ta tb:TE} {pos:Pos}
theorem IxR.or {r r':R2} (h:IxR X r) (h':IxR X r'):IxR X (fun x y H Q => r x y H Q ∨ r' x y H Q):=by
  intro value slice pins s σ H x y v u Q I rx ry q hs
  rcases q with q | q
  . exact h value slice pins s σ H x y v u Q I rx ry q hs
  . exact h' value slice pins s σ H x y v u Q I rx ry q hs
theorem pe_ix {r:R2} (hr:IxR X r) (ha:PE X a ta) (hb:PE X b tb) (hs:PlainIx b):PE X (.Subscript a b pos) (tOp r ta tb):=by
  intro pins s σ H Q I h
  exact Subscript_ (binT ha hb I h fun v u s2 x y H2 I2 rx ry q => hr a b pins s2 σ H2 x y v u Q I2 rx ry q (hs _ _))
noncomputable def rIxL (K:PySem.W.Frag):R2:=fun x y H Q => ∃ p xs i v,x = .ref p /\ y = .int i /\ SqL K H p xs /\ atI xs i = some v /\ Q v H
noncomputable def rIxT (K:PySem.W.Frag):R2:=fun x y H Q => ∃ p xs i v,x = .ref p /\ y = .int i /\ SqT K H p xs /\ atI xs i = some v /\ Q v H
noncomputable def rIxS:R2:=fun x y H Q => ∃ z i c,x = .str z /\ y = .int i /\ z.length <= sizeLine /\ atI z.cps.toList i = some c /\ Q (.str ⟨#[c]⟩) H
theorem ix_list:IxR X (rIxL X.K):=by
  intro value slice pins s σ H x y v u Q I rx ry h hs
  obtain ⟨p,xs,i,z,rfl,rfl,hq,he,q⟩:=h
  cases rx
  obtain ⟨t,rfl⟩:=ry
  obtain ⟨its,r,pl,hz⟩:=I.list hq
  obtain ⟨j,h1,h2,h3,h4,h5⟩:=atI_get he
  obtain ⟨w,ew,rw'⟩:=r.get h2
  have hl:=r.length
  have hn:=line63
  have fin:EP X pins σ Q w s:=⟨z,H,I,rw',q⟩
  by_cases h0:0 <= i
  . have hj:i.toNat = j:=by
      rw [seqIndex_of h0 h5] at h1
      exact Option.some.inj h1
    exact item_listR pl.isList h0 (by omega) (by rw [hj]; simpa using ew) fin hs
  . have hj:(i + (its.toArray.size:Int)).toNat = j:=by
      rw [seqIndex_neg (by omega) h4] at h1
      rw [List.size_toArray,← hl]
      exact Option.some.inj h1
    exact subscriptTail_builtinR (x:=w) pl.isList.typeIs slot_list_getitem.lookup
      (wpAny_getItem_list_neg (Q:=fun r s' => r = w /\ EP X pins σ Q r s') pl.isList (by omega) (by rw [List.size_toArray] <;> omega) (by omega) (by rw [hj]; simpa using ew) ⟨rfl,fin⟩) hs
theorem ix_tup:IxR X (rIxT X.K):=by
  intro value slice pins s σ H x y v u Q I rx ry h hs
  obtain ⟨p,xs,i,z,rfl,rfl,hq,he,q⟩:=h
  cases rx
  obtain ⟨t,rfl⟩:=ry
  obtain ⟨its,r,pl,hz⟩:=I.tuple hq
  obtain ⟨j,h1,h2,h3,h4,h5⟩:=atI_get he
  obtain ⟨w,ew,rw'⟩:=r.get h2
  have hl:=r.length
  have hn:=line63
  have fin:EP X pins σ Q w s:=⟨z,H,I,rw',q⟩
  exact subscriptTail_builtinR (x:=w) pl.typeIs slot_tuple_getitem.lookup
    (getItem_tuple (j:=j) (Q:=fun r s' => r = w /\ EP X pins σ Q r s') pl (by omega) (by omega) (by rw [List.size_toArray,← hl]; exact h1) (by simpa using ew) ⟨rfl,fin⟩) hs
theorem ix_str:IxR X rIxS:=by
  intro value slice pins s σ H x y v u Q I rx ry h hs
  obtain ⟨z,i,c,rfl,rfl,hz,he,q⟩:=h
  obtain ⟨t,rfl⟩:=rx
  obtain ⟨t',rfl⟩:=ry
  obtain ⟨j,h1,h2,h3,h4,h5⟩:=atI_get he
  have hl:z.cps.toList.length = z.length:=by simp [Str.length]
  rw [hl] at h1 h4 h5
  have hn:=line63
  exact tail_any (typeIs_str s z t) slot_str_getitem.lookup (getItem_str (c:=c) (by
    have e1:decide (i < -(2 ^ 63:Int)) = false:=decide_eq_false (by omega)
    have e2:decide (i ≥ 2 ^ 63) = false:=decide_eq_false (by omega)
    rw [e1,e2,Bool.or_false]) (by rw [h1]; simpa using h2) ⟨.str ⟨#[c]⟩,H,I.tok _,⟨_,rfl⟩,q⟩) hs
noncomputable def rIx (K:PySem.W.Frag):R2:=fun x y H Q => rIxL K x y H Q ∨ rIxT K x y H Q ∨ rIxS x y H Q
theorem ix_seq:IxR X (rIx X.K):=ix_list.or (ix_tup.or ix_str)
noncomputable def flatV:V -> Bool
  | .non => true
  | .bl _ => true
  | .int _ => true
  | .str _ => true
  | _ => false
noncomputable def eqV:V -> V -> Bool
  | .non,.non => true
  | .bl a,.bl b => a == b
  | .bl a,.int b => (if a then 1 else 0) == b
  | .int a,.bl b => a == (if b then 1 else 0)
  | .int a,.int b => a == b
  | .str a,.str b => a == b
  | _,_ => false
theorem eqAt_V {A:Around} {s:Shared} {y x:V} {u v:Value} (ry:RelV y u) (rx:RelV x v) (fy:flatV y = true) (fx:flatV x = true):SeqAt.EqAt A s u v (eqV y x):=by
  cases y with
  | non =>
    cases ry
    cases x with
    | non => cases rx; exact SeqAt.EqAt.same _
    | bl b => cases rx; exact SeqAt.EqAt.none_bool b
    | int b => obtain ⟨t,rfl⟩:=rx; exact SeqAt.EqAt.none_int b t
    | str b => obtain ⟨t,rfl⟩:=rx; exact SeqAt.EqAt.none_str b t
    | _ => exact absurd (show false = true from fx) Bool.false_ne_true
  | bl a =>
    cases ry
    cases x with
    | non => cases rx; exact SeqAt.EqAt.bool_none a
    | bl b => cases rx; exact SeqAt.EqAt.bool_bool a b
    | int b => obtain ⟨t,rfl⟩:=rx; exact SeqAt.EqAt.bool_int a b t
    | str b => obtain ⟨t,rfl⟩:=rx; exact SeqAt.EqAt.bool_str a b t
    | _ => exact absurd (show false = true from fx) Bool.false_ne_true
  | int a =>
    obtain ⟨t',rfl⟩:=ry
    cases x with
    | non => cases rx; exact SeqAt.EqAt.int_none a t'
    | bl b => cases rx; exact SeqAt.EqAt.int_bool a t' b
    | int b => obtain ⟨t,rfl⟩:=rx; exact SeqAt.EqAt.int_int a t' b t
    | str b => obtain ⟨t,rfl⟩:=rx; exact SeqAt.EqAt.int_str a t' b t
    | _ => exact absurd (show false = true from fx) Bool.false_ne_true
  | str a =>
    obtain ⟨t',rfl⟩:=ry
    cases x with
    | non => cases rx; exact SeqAt.EqAt.str_none a t'
    | bl b => cases rx; exact SeqAt.EqAt.str_bool a t' b
    | int b => obtain ⟨t,rfl⟩:=rx; exact SeqAt.EqAt.str_int a t' b t
    | str b => obtain ⟨t,rfl⟩:=rx; exact SeqAt.EqAt.str_str a t' b t
    | _ => exact absurd (show false = true from fx) Bool.false_ne_true
  | _ => exact absurd (show false = true from fy) Bool.false_ne_true
noncomputable def eqU (x:V) (u:Value):Bool:=match u with
  | .none => eqV .non x
  | .bool b => eqV (.bl b) x
  | .int i _ => eqV (.int i) x
  | .str z _ => eqV (.str z) x
  | _ => false
theorem eqU_of {x y:V} {u:Value} (r:RelV y u) (f:flatV y = true):eqU x u = eqV y x:=by
  cases y with
  | non => cases r; rfl
  | bl b => cases r; rfl
  | int i => obtain ⟨t,rfl⟩:=r; rfl
  | str z => obtain ⟨t,rfl⟩:=r; rfl
  | _ => exact absurd (show false = true from f) Bool.false_ne_true
theorem any_eqU {x:V}:∀ {xs:List V} {us:List Value},Vals xs us -> xs.all flatV = true -> us.any (eqU x) = xs.any fun y => eqV y x
  | _,_,.nil,_ => rfl
  | y :: xs,u :: us,.cons r t,f => by
    rw [List.all_cons,Bool.and_eq_true] at f
    rw [List.any_cons,List.any_cons,eqU_of r f.1,any_eqU t f.2]
theorem mem_eqAt {A:Around} {s:Shared} {x:V} {v:Value} (rx:RelV x v) (fx:flatV x = true):∀ {xs:List V} {us:List Value},Vals xs us -> xs.all flatV = true -> ∀ u ∈ us,SeqAt.EqAt A s u v (eqU x u)
  | _,_,.nil,_ => fun u hu => by cases hu
  | y :: xs,u :: us,.cons r t,f => fun u' hu => by
    rw [List.all_cons,Bool.and_eq_true] at f
    rcases List.mem_cons.mp hu with rfl | hu
    . rw [eqU_of r f.1]; exact eqAt_V r rx f.1 fx
    . exact mem_eqAt rx fx t f.2 u' hu
noncomputable def inV (x:V) (xs:List V):Bool:=xs.any fun y => eqV y x
noncomputable def rIn (K:PySem.W.Frag) (neg:Bool):R2:=fun x y H Q => ∃ p xs,y = .ref p /\ (SqL K H p xs ∨ SqT K H p xs) /\ flatV x = true /\ xs.all flatV = true /\ Q (.bl (if neg then !inV x xs else inV x xs)) H
theorem op_in_seq:OpR X (compareOp .In) (rIn X.K false):=by
  intro pins s σ H x y v u Q I rx ry h
  obtain ⟨p,xs,rfl,hq,fx,fs,q⟩:=h
  cases ry
  rcases hq with hq | hq
  . obtain ⟨its,r,pl,hz⟩:=I.list hq
    refine SeqAt.in_listAt (eqU x) pl.isList (fun w hw => mem_eqAt rx fx r fs w (by simpa using hw)) ⟨.bl _,H,I,rfl,?_⟩
    rw [show its.toArray.any (eqU x) = its.any (eqU x) by simp,any_eqU r fs]
    exact q
  . obtain ⟨its,r,pl,hz⟩:=I.tuple hq
    refine SeqAt.in_tupleAt (eqU x) pl (fun w hw => mem_eqAt rx fx r fs w (by simpa using hw)) ⟨.bl _,H,I,rfl,?_⟩
    rw [show its.toArray.any (eqU x) = its.any (eqU x) by simp,any_eqU r fs]
    exact q
noncomputable def tyV (K:PySem.W.Frag) (T:String) (x:V) (H:Hp):Prop:=match x with
  | .str _ => T = "str"
  | .int _ => T = "int"
  | .ref p => (T = "list" /\ ∃ xs,SqL K H p xs) ∨ (T = "tuple" /\ ∃ o,K.lookup p = some o /\ o.cls = .type "tuple" /\ o.dict = none) ∨
      (T = "dict" /\ ((∃ kvs,H p = some (.dK kvs)) ∨ ∃ kvs,H p = some (.dT kvs))) ∨ (T = "set" /\ ∃ S n,H p = some (.set S n))
  | _ => False
theorem tyV_is {pins:List (Addr×Obj)} {σ:St} {H:Hp} {s:Shared} {T:String} {x:V} {v:Value} (I:Inv X pins σ H s) (r:RelV x v) (ty:tyV X.K T x H) :
    s.TypeIs v T /\ ∀ a,v = .ref a -> ∃ ob,s.heap.get? a = some ob /\ ob.dict = none:=by
  cases x with
  | str z =>
    obtain ⟨t,rfl⟩:=r
    cases (show T = "str" from ty)
    exact ⟨typeIs_str s z t,fun _ e => nomatch e⟩
  | int i =>
    obtain ⟨t,rfl⟩:=r
    cases (show T = "int" from ty)
    exact ⟨typeIs_int s i t,fun _ e => nomatch e⟩
  | ref p =>
    cases r
    rcases ty with ⟨rfl,xs,hq⟩ | ⟨rfl,o,hk,hc,hd⟩ | ⟨rfl,hk⟩ | ⟨rfl,S,n,hk⟩
    . obtain ⟨its,_,pl,_⟩:=I.list hq
      refine ⟨pl.isList.typeIs,fun a e => ?_⟩
      cases e
      obtain ⟨o,n,e,c,hd,_⟩:=pl
      exact ⟨o,e,hd⟩
    . refine ⟨⟨o,I.kIn p o hk,hc⟩,fun a e => ?_⟩
      cases e
      exact ⟨o,I.kIn _ o hk,hd⟩
    . have z:∃ o,s.heap.get? p = some o /\ o.ExactDict:=by
        rcases hk with ⟨kvs,hk⟩ | ⟨kvs,hk⟩
        . obtain ⟨_,_,_,_,o,_,_,e,ex,_⟩:=I.hok p _ hk
          exact ⟨o,e,ex⟩
        . obtain ⟨_,_,_,_,o,_,_,e,ex,_⟩:=I.hok p _ hk
          exact ⟨o,e,ex⟩
      obtain ⟨o,e,ex⟩:=z
      refine ⟨⟨o,e,ex.1⟩,fun a e2 => ?_⟩
      cases e2
      exact ⟨o,e,ex.2.1⟩
    . obtain ⟨o,_,_,_,e,ex,_⟩:=I.hok p _ hk
      refine ⟨⟨o,e,ex.1⟩,fun a e2 => ?_⟩
      cases e2
      exact ⟨o,e,ex.2.1⟩
  | _ => exact False.elim ty
noncomputable def tBM (K:PySem.W.Frag) (T:String) (r:V -> List V -> Hp -> VK -> Prop) (to:TE) (t:TA):TE:=fun σ H Q => to σ H fun x H1 => tyV K T x H1 /\ t σ H1 fun xs H2 => r x xs H2 Q
variable {o e:Expr} {es:List Expr} {to:TE} {t:TA} {name:Str} {apos cpos:Pos} {T id:String} {r:V -> List V -> Hp -> VK -> Prop}
theorem pe_bm (pa:PlainAttrs T) (slot:Slot T name id) (hty:typeOf (.builtin id) = pure (.type "method_descriptor")) (hm:MtR X id r) (ho:PE X o to) (ha:PA X (e :: es) t)
    (hbase:attributeBase o name X.env (eval o X.env) = eval o X.env:=by rfl)
    (hfew:((backTo cpos (starEach (e :: es) X.env)).all (fun x => !x.1) && (backToKw cpos (keywordEach [] X.env)).all (fun x => x.1.isSome)
      && decide ((e :: es).length + ([]:List Keyword).length + (if ([]:List Keyword).isEmpty then 0 else 1) < 30)) = true:=by rfl)
    (hline:(apos.endLine == cpos.line) = true:=by rfl) (hs:starEach (e :: es) X.env = (false,eval e X.env) :: starEach es X.env:=by rfl) (hplain:(backTo cpos (starEach es X.env)).any (·.1) = false:=by rfl) :
    PE X (.Call (.Attribute o name apos) (e :: es) [] cpos) (tBM X.K T r to t):=by
  intro pins s σ H Q I h
  refine wpAny_Call_method_late hbase hfew hline rfl (thn (ho pins s σ H _ I h) fun v s1 ⟨x,H1,I1,r1,ty,q1⟩ => ?_)
  obtain ⟨h1,h2⟩:=tyV_is I1 r1 ty
  refine ⟨T,id,pa,slot,hty,h1,h2,?_⟩
  have hA:=ha cpos pins s1 σ H1 _ I1 q1
  rw [hs] at hA ⊢
  refine Calls.callWith_builtin (by show (false || (backTo cpos (starEach es X.env)).any (·.1)) = false; rw [hplain] <;> rfl) (Calls.evalArgs_plain ?_)
  exact thn hA fun us s2 ⟨vs,H2,I2,r2,q2⟩ => hm pins s2 σ H2 x vs v us Q I2 r1 r2 q2
/- xs.append(e),list.index on a module's tuple .. are MtR facts of 06m -/
end
end L2
namespace L2
open PySem PySem.Spec PyProof.Rows
noncomputable def MtM (X:Cx) (id:String) (r:V -> List V -> Hp -> VK -> Prop):Prop :=
  ∀ (pins:List (Addr×Obj)) (s:Shared) (σ:St) (H:Hp) (x:V) (xs:List V) (v:Value) (us:List Value) (Q:VK),Inv X pins σ H s -> RelV x v -> Vals xs us -> r x xs H Q ->
    wpAny (model X.prog X.w) X.A (call (.builtin id) (v :: us)) (EP X pins σ Q) X.xe s
theorem Vals.one:∀ {x:V} {us:List Value},Vals [x] us -> ∃ u,us = [u] /\ RelV x u
 :=fun h => by cases h with | cons r h => cases h; exact ⟨_,rfl,r⟩
theorem Vals.two:∀ {x y:V} {us:List Value},Vals [x,y] us -> ∃ u v,us = [u,v] /\ RelV x u /\ RelV y v
 :=fun h => by cases h with | cons r h => cases h with | cons q h => cases h; exact ⟨_,_,rfl,r,q⟩
section
variable {X:Cx} {pins:List (Addr×Obj)} {σ:St} {H:Hp} {s:Shared} {l b:Addr} {xs ys zs:List V}
theorem Inv.lset {its its':List Value} {n:Nat} {f:Array Value -> Array Value} {t':Nat} (I:Inv X pins σ H s) (hH:H l = some (.lst xs))
    (e:s.heap.get? l = some { cls:=.type "list",data:=.seq its.toArray n }) (hf:f its.toArray = its'.toArray) (hv:Vals ys its') (hz:ys.length <= sizeLine) :
    Inv X pins σ (upd H l (.lst ys)) { s with heap:=s.heap.update l (Obj.mapSeq f),toks:=t' }:=by
  have q:=PySem.IsL.update e f
  rw [hf] at q
  refine I.write (x:=l) (e:=l) (by rw [hH]; exact trivial) (.inl rfl) (fun b' u hb hu => (Heap.get?_update_other s.heap (Obj.mapSeq f) (Ne.symm hb)).trans hu) ⟨_,q⟩ ?_
  exact ⟨hz,its',_,hv,q⟩
theorem Inv.lnew {its:List Value} {t':Nat} (I:Inv X pins σ H s) (hv:Vals ys its) (hz:ys.length <= sizeLine) :
    Inv X pins σ (upd H s.heap.objs.size (.lst ys)) { s with heap:=s.heap.push { cls:=.type "list",data:=.seq its.toArray },toks:=t' } :=
  I.laid (fun _ _ q => Heap.get?_push_of_some _ q) (Nat.le_refl _) ⟨hz,its,0,hv,Heap.get?_push_size _ rfl⟩
theorem Inv.fresh (I:Inv X pins σ H s):H s.heap.objs.size = none:=I.hok.fresh (Nat.le_refl _)
theorem Inv.lstM (I:Inv X pins σ H s) (hH:H l = some (.lst xs)):xs.length <= sizeLine /\ ∃ (its:List Value) (n:Nat),Vals xs its /\ xs.length = its.length /\ s.heap.get? l = some { cls:=.type "list",data:=.seq its.toArray n }:=by
  obtain ⟨z,its,n,r,e⟩:=I.hok l _ hH
  exact ⟨z,its,n,r,r.length,e⟩
end
section
variable {X:Cx}
noncomputable def rAppend:V -> List V -> Hp -> VK -> Prop:=fun x vs H Q => ∃ l xs y,x = .ref l /\ vs = [y] /\ H l = some (.lst xs) /\ xs.length < sizeLine /\ Q .non (upd H l (.lst (xs ++ [y])))
theorem mt_append:MtM X "list.append" rAppend:=by
  intro pins s σ H x vs v us Q I rx rv h
  obtain ⟨l,xs,y,rfl,rfl,hH,hz,q⟩:=h
  cases rx
  obtain ⟨u,rfl,ru⟩:=rv.one
  obtain ⟨z,its,n,r,hl,e⟩:=I.lstM hH
  refine call_meets F.slot_list_append ⟨_,e,rfl⟩ F.entry_list_append (F.args_list_append_2 _ _) (PySem.list_append l its.toArray n u (by rw [List.size_toArray]; omega)) ⟨e,?_⟩
  refine ⟨.non,_,I.lset (its':=its ++ [u]) hH e (by simp) (r.append (.cons ru .nil)) ?_,rfl,q⟩
  rw [List.length_append,List.length_singleton]
  omega
noncomputable def rCat:R2:=fun x y H Q => ∃ l b xs zs,x = .ref l /\ y = .ref b /\ H l = some (.lst xs) /\ H b = some (.lst zs) /\ xs.length + zs.length <= sizeLine /\ ∀ p,H p = none -> Q (.ref p) (upd H p (.lst (xs ++ zs)))
theorem op_cat:OpR X (binaryOp .Add) rCat:=by
  intro pins s σ H x y v u Q I rx ry h
  obtain ⟨l,b,xs,zs,rfl,rfl,hH,hB,hz,q⟩:=h
  cases rx
  cases ry
  obtain ⟨z,its,n,r,hl,e⟩:=I.lstM hH
  obtain ⟨z2,its2,n2,r2,hl2,e2⟩:=I.lstM hB
  refine PySem.P.add_list e e2 ?_ (by rw [List.size_toArray,List.size_toArray]; omega)
  have ea:its.toArray ++ its2.toArray = (its ++ its2).toArray:=by simp
  rw [ea]
  exact ⟨.ref _,_,I.lnew (t':=s.toks) (r.append r2) (by rw [List.length_append]; omega),rfl,q _ I.fresh⟩
end
section
variable {prog:Program} {w:World} {A:Around} {E:Value -> Shared -> Prop} {s:Shared}
end
section
variable {X:Cx}
end
end L2
namespace Att
open PySem PySem.W PySem.Calls PyProof.Rows
theorem ints_of_wellAll {P:Params} {h:Heap}:∀ (ns:List Int) (vs:List Value),WellAll P h vs (ns.map WData.int) -> IntsAre vs ns:=by
  intro ns
  induction ns with
  | nil =>
    intro vs w
    rw [List.map_nil] at w
    cases w
    exact .nil
  | cons n ns ih =>
    intro vs w
    rw [List.map_cons] at w
    cases w with
    | cons a b =>
      cases a
      exact .cons _ _ (ih _ b)
theorem script_of {l:OpenLaw} {n:Nat} (hn:l.most = some n) {P:Params} {h:Heap} {args:List WData} {vals:List Value}
    (hpre:l.row.toRowW.claim.pre args = true) (hwl:WellAll P h vals args) :
    ∃ a vs ns,vals = [Value.ref a] /\ args = [WData.list (ns.map WData.int)] /\ h.get? a = some { cls:=.type "list",data:=.seq vs.toArray } /\ IntsAre vs ns /\ ns.length <= n:=by
  have hsh:WShape.hasAll [] args [.list .int] = true:=(pre_splitW hpre).1
  have hc:l.pre.holds [] { args:=args } = true:=(pre_splitW hpre).2
  obtain ⟨d,r,rfl,h1,h2⟩:=hasAllW_cons hsh
  obtain rfl:=hasAllW_nil h2
  obtain ⟨xs,rfl,h3⟩:=hasW_list h1
  obtain ⟨ns,rfl⟩:=items_int h3
  have hlen:ns.length <= n:=by
    unfold OpenLaw.pre at hc
    have h4:(WTm.not (.lt (.lit (.int (n:Int))) (.len (.arg 0)))).holds [] { args:=[.list (ns.map .int)] } = true:=by
      have h4:=(holds_andW hc).1
      rw [hn] at h4
      exact h4
    have h5:=condW_of h4 (w_not (w_lt w_lit (w_len_list (w_arg rfl))))
    rw [List.length_map] at h5
    refine Nat.le_of_not_lt fun q => ?_
    have q':(n:Int) < ((ns.length:Nat):Int):=by omega
    first
      | (rw [decide_eq_true q'] at h5; exact absurd h5 (by decide))
      | (simp at h5; omega)
  cases hwl with
  | cons w1 w2 =>
    cases w2
    cases w1 with
    | list ho hall => exact ⟨_,_,ns,rfl,rfl,ho,ints_of_wellAll ns _ hall,hlen⟩
theorem post_true (l:OpenLaw) (args:List WData):l.row.toRowW.claim.post args (.bool true) args = true :=
  postW_of (r:=l.row.toRowW) (X:=(true == true))
    (show WShape.has [] (.bool true) .bool = true by first | rfl | decide | simp [WShape.has,WShape.arms,WShape.armsAll])
    (show (WTm.eq .res (.lit (.bool true))).value [] { args:=args,res:=some (.bool true),after:=args } = some (.bool (true == true)) from w_eq_bool (w_res rfl) w_lit) rfl
theorem attach_call {l:OpenLaw} {n:Nat} {q:Program} {loose:List Str} {XP:(Str -> Option Value) -> Heap -> Prop} {YP:World -> Heap -> Prop} {d:DefRec}
    (hn:l.most = some n) (hdf:d.params.defaults = [])
    (call:∀ (w:World) (s₀ s₁:Shared) (mg mb:Str -> Option Value) (fa:Addr) (o:Obj) (pm cd doc:Value) (a:Addr) (vs:List Value) (ns:List Int),
      Ground q loose [] XP w s₀ mg mb s₁.heap -> YP w s₁.heap ->
      s₁.heap.get? fa = some o -> o.data = .func (docDef d.name d.params d.body d.scope pm cd doc) -> s₁.heap.CodeRec cd d.name -> mg d.name = some (.ref fa) ->
      s₁.heap.get? a = some { cls:=.type "list",data:=.seq vs.toArray } -> IntsAre vs ns -> ns.length <= n -> s₁.gens = #[] ->
      codeAny (model l.prog w) callerA (.call (.ref fa) ⟨[.ref a],[]⟩) (fun r s' => r = .ok (.ret (.bool true)) /\ OldK s₁.heap s'.heap /\ s'.os = s₁.os /\ AllBare s'.gens) s₁) :
    WalkO q loose XP YP l.row.toRowW d [] (fun f vs => PySem.call f vs):=by
  intro w s₀ s₁ mg mb G Y fa o pm cd doc dV kV ho hd hcd hD hmg hg args vals as hpre hlay hrd hwl hlo
  obtain rfl:dV = .none:=Dflts.none hD hdf
  obtain rfl:kV = .none:=Dflts.noKw hD
  obtain ⟨a,vs,ns,rfl,rfl,hobj,hints,hlen⟩:=script_of hn hpre hwl
  refine enter_call (codeAny_mono (call w s₀ s₁ mg mb fa o pm cd doc a vs ns G Y ho (fd_plain hd) hcd hmg hobj hints hlen hg) fun r s' hq => ?_)
  obtain ⟨rfl,h2,h3,h4⟩:=hq
  exact ⟨.inl ⟨.bool true,.bool true,[],rfl,fun _ => rfl,.bool true,post_true l _,fun _ => ⟨List.Pairwise.nil,fun _ hm => (nomatch hm)⟩⟩,h2,h3,h4⟩
section
variable {prog:Program} {w:World} {A:Around} {E:Value -> Shared -> Prop} {s:Shared} {K:Frag}
end
end Att
namespace L2
open PySem PySem.Spec PyProof.Rows
theorem vals_ints:∀ {vs:List Value} {ns:List Int},IntsAre vs ns -> Vals (ns.map V.int) vs
  | _,_,.nil => .nil
  | _,_,.cons n t h => .cons ⟨t,rfl⟩ (vals_ints h)
noncomputable def Only (H:Hp):Prop:=∀ b,H b = none ∨ ∃ o xs,H b = some (.frz o (.lst xs))
theorem law_call {P:Program} {w:World} {K:PySem.W.Frag} {mg mb:Str -> Option Value} {CX:CXT} {k:Nat} {fa a:Addr} {fd:FuncData} {x:Str} {sp:Sp} {s₁:Shared} {vs:List Value} {ns:List Int}
    (KX:K.In s₁.heap) (hns:s₁.heap.Ns mainGlobals mg) (hb:s₁.heap.Ns builtinsNs mb) (hbb:∀ x:Str,x ≠ "__name__" -> mb x = bootBuiltins x) (hlim:s₁.heap.NoLimit) (hg:s₁.gens = #[])
    (ha:s₁.heap.get? a = some { cls:=.type "list",data:=.seq vs.toArray }) (hi:IntsAre vs ns) (hl:ns.length <= sizeLine) (hr:Room k callerA)
    (F:∀ base:Heap,K.In base -> base.Ns mainGlobals mg -> FnOk P w K mg base CX k fa fd [x] sp) (hbind:∀ (s:Shared) (u:Value),BindsTo s fd ⟨[u],[]⟩ [(x,u)])
    (hsp:∀ H:Hp,Only H -> SqL K H a (ns.map V.int) -> sp [.ref a] H (fun v _ => v = .bl true) fun _ _ _ => False)
    (hCX:∀ H e s',CX [] H s₁ (fun _ _ _ => False) e s' -> False) :
    codeAny (model P w) callerA (.call (.ref fa) ⟨[.ref a],[]⟩) (fun r s' => r = .ok (.ret (.bool true)) /\ OldK s₁.heap s'.heap /\ s'.os = s₁.os /\ AllBare s'.gens) s₁:=by
  have rv:=vals_ints hi
  have lenV:=hi.length
  -- from an abstract heap in which nothing but the script may be tracked
  have core:∀ H:Hp,Only H -> SqL K H a (ns.map V.int) -> HOk P w H s₁.heap -> (∀ b,H b ≠ none -> b = a) -> (H a ≠ none -> K.lookup a = none) ->
      codeAny (model P w) callerA (.call (.ref fa) ⟨[.ref a],[]⟩) (fun r s' => r = .ok (.ret (.bool true)) /\ OldK s₁.heap s'.heap /\ s'.os = s₁.os /\ AllBare s'.gens) s₁:=by
    intro H hO hS hok hA hK
    have base_of:∀ {b:Addr} {o:Obj},s₁.heap.get? b = some o -> H b = none -> (hidT s₁.heap H).get? b = some o:=fun e n => hidT_get e n
    have noA:∀ {b:Addr} {o:Obj} {es:Array DictEntry} {ep:Nat},s₁.heap.get? b = some o -> o.data = .dict es ep -> H b = none:=fun {b o es ep} e d => by
      cases q:H b with
      | none => rfl
      | some u =>
        have e':b = a:=hA b (by rw [q]; simp)
        subst e'
        rw [ha] at e; cases e
        have d':Data.seq vs.toArray _ = Data.dict es ep:=d
        cases d'
    have nsK:∀ {b:Addr} {m:Str -> Option Value},s₁.heap.Ns b m -> (hidT s₁.heap H).Ns b m:=fun {b m} ⟨o,es,ep,e,d,r⟩ => ⟨o,es,ep,base_of e (noA e d),d,r⟩
    have hKb:K.In (hidT s₁.heap H):=fun b o e => base_of (KX b o e) (by
      cases q:H b with
      | none => rfl
      | some u =>
        have e':b = a:=hA b (by rw [q]; simp)
        subst e'
        rw [hK (by rw [q]; simp)] at e; cases e)
    have hM:Mod K mg (hidT s₁.heap H):=⟨hKb,nsK hns,⟨mb,nsK hb,hbb⟩,let ⟨mc,h1,h2⟩:=hlim; ⟨mc,nsK h1,h2⟩⟩
    have e0:Env0 P w K mg (hidT s₁.heap H) callerA [] s₁ H:=⟨rfl,hM,fun b o e => of_hidT e,Nat.le_of_eq (hidT_size _ _),trivial,fun b hb => absurd (show b ∈ ([]:List Addr) from hb) (by simp),hok,.of_eq hg⟩
    refine codeAny_mono ((F _ hKb (nsK hns)).run callerA [] s₁ H ⟨[.ref a],[]⟩ [.ref a] [.ref a] _ _ hr e0 (hbind s₁ (.ref a)) (.cons rfl .nil) (hsp H hO hS)) fun r s' h => ?_
    cases r with
    | error e => exact (hCX H e s' h).elim
    | ok fl =>
      cases fl with
      | next => exact False.elim h
      | brk => exact False.elim h
      | cont => exact False.elim h
      | ret u =>
        obtain ⟨v,H',os,bare,un,hok',r',q⟩:=h
        have q':v = .bl true:=q
        subst q'
        obtain rfl:u = Value.bool true:=r'
        refine ⟨rfl,OldK.of_keep fun b o e => ?_,os,bare⟩
        cases q:H b with
        | none => exact un.keep b o e q (by intro z; exact absurd (show b ∈ ([]:List Addr) from z) (by simp)) (by simp)
        | some u =>
          rcases hO b with z | ⟨ob,xs,z⟩
          . rw [q] at z; cases z
          . have z2:=un.frzs b ob _ z
            obtain ⟨e1,_⟩:=hok b _ z
            obtain ⟨e2,_⟩:=hok' b _ z2
            rw [e] at e1; cases e1
            exact e2
  cases hk:K.lookup a with
  | some o =>
    -- the script is one of the module's own objects
    have e:=KX a o hk
    rw [ha] at e
    cases e
    refine core (fun _ => none) (fun _ => .inl rfl) (.inr ⟨_,vs.toArray,_,hk,rfl,rfl,rfl,by rw [List.size_toArray,lenV]; exact hl,by simpa using rv⟩) (fun b u z => by have z':(none:Option HO) = some u:=z; cases z') (fun b z => absurd rfl z) fun z => absurd rfl z
  | none =>
    refine core (fun b => if b = a then some (.frz { cls:=.type "list",data:=.seq vs.toArray } (.lst (ns.map V.int))) else none) (fun b => ?_) (.inl (.inr ⟨{ cls:=.type "list",data:=.seq vs.toArray },if_pos rfl⟩)) (fun b u z => ?_) (fun b z => ?_) fun _ => hk
    . by_cases hb:b = a
      . exact .inr ⟨_,_,if_pos hb⟩
      . exact .inl (if_neg hb)
    . by_cases hb:b = a
      . have z':=(if_pos hb).symm.trans z
        cases z'
        subst hb
        exact ⟨ha,by rw [List.length_map]; exact hl,vs,_,rv,ha⟩
      . have z':=(if_neg hb).symm.trans z
        cases z'
    . by_cases hb:b = a
      . exact hb
      . exact absurd (if_neg hb) z
end L2
namespace L2
open PySem PySem.Spec PyProof.Rows
theorem walk_of {l:PySem.W.OpenLaw} {n k:Nat} {q:Program} {loose:List Str} {XP:(Str -> Option Value) -> Heap -> Prop} {YP:World -> Heap -> Prop} {d:DefRec} {K:Params -> PySem.W.Frag} {CX:World -> CXT} {sp:World -> Sp} {x:Str}
    (hn:l.most = some n) (hn2:n <= sizeLine) (hdf:d.params.defaults = []) (hr:Room k callerA)
    (hY:∀ (w:World) (h:Heap),YP w h -> (K w.params).In h)
    (F:∀ (w:World) (mg:Str -> Option Value) (fa:Addr) (h:Heap),(K w.params).In h -> h.Ns mainGlobals mg -> mg d.name = some (.ref fa) ->
      ∃ fd:FuncData,(∀ (s:Shared) (u:Value),BindsTo s fd ⟨[u],[]⟩ [(x,u)]) /\
        ∀ base:Heap,(K w.params).In base -> base.Ns mainGlobals mg -> FnOk l.prog w (K w.params) mg base (CX w) k fa fd [x] (sp w))
    (hsp:∀ (w:World) (H:Hp) (a:Addr) (ns:List Int),ns.length <= n -> Only H -> SqL (K w.params) H a (ns.map V.int) -> sp w [.ref a] H (fun v _ => v = .bl true) fun _ _ _ => False)
    (hCX:∀ (w:World) (H:Hp) (s:Shared) (e:Value) (s':Shared),CX w [] H s (fun _ _ _ => False) e s' -> False) :
    PySem.W.WalkO q loose XP YP l.row.toRowW d [] (fun f vs => PySem.call f vs):=by
  refine Att.attach_call hn hdf fun w s₀ s₁ mg mb fa o pm cd doc a vs ns G Y ho hd hcd hmg hobj hints hlen hg => ?_
  have KX:=hY w _ Y
  obtain ⟨fd,hb,hF⟩:=F w mg fa _ KX G.T.g hmg
  exact law_call KX G.T.g G.T.b G.T.builtins G.T.nolimit hg hobj hints (Nat.le_trans hlen hn2) hr hF hb (fun H hO hS => hsp w H a ns hlen hO hS) fun H e s' => hCX w H s₁ e s'
end L2
/- THE LAST THEOREM (shape; LID,My.* are yours):
   My.Adr: a structure of the addresses that your layer names (classes,functions); My.Txt K t: a structure (Prop) of the equations over K;
   My.txt_mk:{K} {implicit addresses ..} (e1:nsIn K mainGlobals "law" = some (some (.ref f))) (e2:K.lookup f = some ⟨oc,od,.func (fnOf "law" "law" params body scope dV kV doc pm an cdv ct),sl⟩) (e3:codeIn K cdv "law" = true) ..:∃ t,My.Txt K t
(the tactic k_is has no namespace: write k_is) -/
namespace L2
open PySem PySem.Spec PyProof.Rows
noncomputable def defArgs (s:Stmt):Arguments:=match s with
  | .FunctionDef _ a _ _ _ _ _ _ _ _ => a
  | _ => { posonlyargs:=[],args:=[],vararg:=none,kwonlyargs:=[],kw_defaults:=[],kwarg:=none,defaults:=[] }
noncomputable def defBody (s:Stmt):List Stmt:=match s with
  | .FunctionDef _ _ b _ _ _ _ _ _ _ => b
  | _ => []
noncomputable def defScope (s:Stmt):Scope:=match s with
  | .FunctionDef _ _ _ _ _ _ sc _ _ _ => sc
  | _ => { kind:=.function,names:=[],isGenerator:=false,isCoroutine:=false }
noncomputable abbrev CX0:CXT:=fun _ _ _ _ _ _ => False
noncomputable abbrev E0:XK:=fun _ _ _ => False
theorem pass0 {X:Cx}:Passes CX0 X E0:=fun _ _ _ _ _ _ _ h => h.elim
structure Fun (K:PySem.W.Frag) (x qual:Str) (st:Stmt) (f:Addr) (fd:FuncData):Prop where
  ex:∃ (oc:Value) (od:Option Addr) (kV doc pm:Value) (an:Option Addr) (cdv ct:Value) (osl:Array (Option Value)),
    fd = PySem.W.fnOf x qual (defArgs st) (defBody st) (defScope st) .none kV doc pm an cdv ct /\ K.lookup f = some ⟨oc,od,.func fd,osl⟩ /\ PySem.W.codeIn K cdv qual = true
  kp:PySem.W.keepIn K (.ref f) = true
section
variable {P:Program} {w:World} {K:PySem.W.Frag} {mg:Str -> Option Value} {base:Heap}
theorem Fun.ok {x qual:Str} {st:Stmt} {f:Addr} {fd:FuncData} {N ps:List Str} {k:Nat} {sp:Sp} (F:Fun K x qual st f fd) (S:FnScope N ps (defScope st)) (len:∀ vs H Q E,sp vs H Q E -> vs.length = ps.length)
    (hbody:∀ (cdv:Value) (A:Around) (outer:List Env) (s:Shared) (H:Hp) (vs:List V) (Q:VK) (E:XK),Room k (A.deeper (envOfC qual (defScope st) s.heap.objs.size f cdv)) -> sp vs H Q E ->
      ∃ t,PSs (cxOf CX0 P w K mg base N qual (defScope st) f cdv A outer s H E).nox (defBody st) t /\ t { nx:=fun _ H' => Q .non H',rt:=Q } (start N vs) H):FnOk P w K mg base CX0 (k + 1) f fd ps sp:=by
  obtain ⟨oc,od,kV,doc,pm,an,cdv,ct,osl,rfl,lk,hcd⟩:=F.ex
  refine fn_of lk hcd S len fun A outer s H vs Q E hr hsp => ?_
  obtain ⟨t,h,q⟩:=hbody cdv A outer s H vs Q E hr hsp
  exact ⟨t,h.nox,q⟩
theorem fun_mk {x qual:Str} {st:Stmt} {f:Addr} {oc:Value} {od an:Option Addr} {osl:Array (Option Value)} {kV doc pm cdv ct:Value} (l:K.lookup f = some ⟨oc,od,.func (PySem.W.fnOf x qual (defArgs st) (defBody st) (defScope st) .none kV doc pm an cdv ct),osl⟩)
    (c:PySem.W.codeIn K cdv qual = true) (k:PySem.W.keepIn K (.ref f) = true):Fun K x qual st f (PySem.W.fnOf x qual (defArgs st) (defBody st) (defScope st) .none kV doc pm an cdv ct):=⟨⟨oc,od,kV,doc,pm,an,cdv,ct,osl,rfl,l,c⟩,k⟩
end
theorem small1000 {n:Nat} (h:n <= 1000):n < sizeLine:=Nat.lt_of_le_of_lt h (by decide)
section
variable {X:Cx}
theorem pv (i:Nat) {x:Str} {pos:Pos} (hN:X.N[i]? = some x:=by rfl) (hv:Vis X.env.scope x:=by first | exact Or.inl rfl | exact Or.inr (Or.inl rfl) | exact Or.inr (Or.inr rfl)) (hd:(x == ("__debug__":Str)) = false:=by decide)
    (hcd:(x == ("__classdict__":Str)) = false:=by decide):PE X (.Name x pos) (tVar i):=pe_var hN hv hd hcd
end
theorem iteF {A B:Prop} (h:B):if false = true then A else B:=by
  rw [if_neg Bool.false_ne_true]
  exact h
theorem iteT {A B:Prop} (h:A):if true = true then A else B:=by
  rw [if_pos rfl]
  exact h
noncomputable def Same (H H':Hp):Prop:=∀ b o,H b = some o -> H' b = some o
theorem Same.refl (H:Hp):Same H H:=fun _ _ h => h
theorem Same.trans {H H1 H2:Hp} (a:Same H H1) (b:Same H1 H2):Same H H2:=fun c o h => b c o (a c o h)
theorem Same.free {H H':Hp} (e:Same H H') {l:Addr} (h:H' l = Option.none):H l = Option.none:=by
  cases q:H l with
  | none => rfl
  | some o =>
    rw [e l o q] at h
    cases h
theorem Same.seq {K:PySem.W.Frag} {H H':Hp} {a:Addr} {xs:List V} (e:Same H H') (h:SqL K H a xs):SqL K H' a xs:=by
  rcases h with (h | ⟨o,h⟩) | h
  . exact .inl (.inl (e _ _ h))
  . exact .inl (.inr ⟨o,e _ _ h⟩)
  . exact .inr h
end L2
namespace L2
open PySem PySem.Spec PyProof.Rows
section
variable {κ:Type} [DecidableEq κ]
noncomputable def valV (kvs:List (κ×V)) (k:κ):Option V:=(kvs.find? fun kv => decide (kv.1 = k)).map (·.2)
noncomputable def putK (kvs:List (κ×V)) (k:κ) (v:V):List (κ×V) :=
  if (kvs.any fun kv => decide (kv.1 = k)) = true then kvs.map (fun kv => if kv.1 = k then (kv.1,v) else kv) else kvs ++ [(k,v)]
noncomputable def dropK (kvs:List (κ×V)) (k:κ):List (κ×V):=kvs.filter fun kv => decide (kv.1 ≠ k)
theorem valV_pos {p:κ×V} {r:List (κ×V)} {k:κ} (e:p.1 = k):valV (p :: r) k = some p.2:=by simp [valV,List.find?_cons,e]
theorem valV_neg {p:κ×V} {r:List (κ×V)} {k:κ} (e:¬ p.1 = k):valV (p :: r) k = valV r k:=by simp [valV,List.find?_cons,e]
theorem valV_any (k:κ):∀ kvs:List (κ×V),(kvs.any fun kv => decide (kv.1 = k)) = (valV kvs k).isSome
  | [] => rfl
  | p :: r => by
    rw [List.any_cons]
    by_cases e:p.1 = k
    . simp only [valV_pos e,decide_eq_true e,Bool.true_or,Option.isSome_some]
    . rw [valV_neg e,decide_eq_false e,Bool.false_or]; exact valV_any k r
theorem length_putK (kvs:List (κ×V)) (k:κ) (v:V):(putK kvs k v).length <= kvs.length + 1:=by
  unfold putK
  split
  . rw [List.length_map]; omega
  . rw [List.length_append,List.length_cons,List.length_nil]; omega
theorem RelO.isSome_eq {o:Option V} {u:Option Value} (r:RelO o u):o.isSome = u.isSome:=by
  cases o with
  | none => cases u with
    | none => rfl
    | some _ => exact (show False from r).elim
  | some _ => cases u with
    | none => exact (show False from r).elim
    | some _ => rfl
theorem RelO.getD {o:Option V} {u:Option Value} {d:V} {d':Value} (r:RelO o u) (rd:RelV d d'):RelV (o.getD d) (u.getD d'):=by
  cases o with
  | none => cases u with
    | none => exact rd
    | some _ => exact (show False from r).elim
  | some _ => cases u with
    | none => exact (show False from r).elim
    | some _ => exact r
theorem KV.val {kvs:List (κ×V)} {vs:List (κ×Value)} (r:KV kvs vs) (k:κ):RelO (valV kvs k) (valueAt vs k):=by
  unfold KV at r
  induction r with
  | nil => exact True.intro
  | @cons p q ps qs h t ih =>
    obtain ⟨h1,h2⟩:=h
    by_cases e:p.1 = k
    . have e':q.1 = k:=h1.symm.trans e
      have b:valueAt (q :: qs) k = some q.2:=by simp [valueAt,List.find?_cons,e']
      rw [valV_pos e,b]; exact h2
    . have e':¬ q.1 = k:=fun z => e (h1.trans z)
      have b:valueAt (q :: qs) k = valueAt qs k:=by simp [valueAt,List.find?_cons,e']
      rw [valV_neg e,b]; exact ih
theorem KV.any {kvs:List (κ×V)} {vs:List (κ×Value)} (r:KV kvs vs) (k:κ):(kvs.any fun kv => decide (kv.1 = k)) = vs.any fun kv => decide (kv.1 = k):=by
  unfold KV at r
  induction r with
  | nil => rfl
  | cons h t ih => rw [List.any_cons,List.any_cons,ih,h.1]
theorem KV.repl {kvs:List (κ×V)} {vs:List (κ×Value)} (r:KV kvs vs) (k:κ) {y:V} {u:Value} (ry:RelV y u) :
    KV (kvs.map fun kv => if kv.1 = k then (kv.1,y) else kv) (vs.map fun kv => if kv.1 = k then (kv.1,u) else kv):=by
  unfold KV at r ⊢
  induction r with
  | nil => exact .nil
  | @cons p q ps qs h t ih =>
    rw [List.map_cons,List.map_cons]
    refine .cons ?_ ih
    obtain ⟨h1,h2⟩:=h
    by_cases e:p.1 = k
    . rw [if_pos e,if_pos (h1.symm.trans e)]; exact ⟨h1,ry⟩
    . rw [if_neg e,if_neg (fun z => e (h1.trans z))]; exact ⟨h1,h2⟩
theorem KV.put {kvs:List (κ×V)} {vs:List (κ×Value)} (r:KV kvs vs) (k:κ) {y:V} {u:Value} (ry:RelV y u):KV (putK kvs k y) (stored vs k u):=by
  unfold putK stored
  rw [r.any k]
  by_cases e:(vs.any fun kv => decide (kv.1 = k)) = true
  . rw [if_pos e,if_pos e]; exact r.repl k ry
  . rw [if_neg e,if_neg e]; exact Paired.snoc r ⟨rfl,ry⟩
theorem KV.drop {kvs:List (κ×V)} {vs:List (κ×Value)} (r:KV kvs vs) (k:κ):KV (dropK kvs k) (without vs k):=by
  unfold KV at r ⊢
  unfold dropK without
  induction r with
  | nil => exact .nil
  | @cons p q ps qs h t ih =>
    obtain ⟨h1,h2⟩:=h
    rw [List.filter_cons,List.filter_cons]
    by_cases e:p.1 = k
    . have a:¬ decide (p.1 ≠ k) = true:=by simp [e]
      have b:¬ decide (q.1 ≠ k) = true:=by simp [h1.symm.trans e]
      rw [if_neg a,if_neg b]; exact ih
    . have e':¬ q.1 = k:=fun z => e (h1.trans z)
      have a:decide (p.1 ≠ k) = true:=by simp [e]
      have b:decide (q.1 ≠ k) = true:=by simp [e']
      rw [if_pos a,if_pos b]; exact .cons ⟨h1,h2⟩ ih
theorem KV.keys {kvs:List (κ×V)} {vs:List (κ×Value)} (r:KV kvs vs):kvs.map (·.1) = vs.map (·.1):=by
  unfold KV at r
  induction r with
  | nil => rfl
  | cons h t ih => rw [List.map_cons,List.map_cons,ih,h.1]
theorem KV.length {kvs:List (κ×V)} {vs:List (κ×Value)} (r:KV kvs vs):kvs.length = vs.length:=Paired.length r
theorem dropK_le (kvs:List (κ×V)) (k:κ):(dropK kvs k).length <= kvs.length:=List.length_filter_le _ _
end
theorem kV_is {P:Program} {w:World} {k:Key} {u:Value} (r:RelV (kV k) u):(mixKind P w).is k u = true:=by
  cases k with
  | inl i => obtain ⟨t,e⟩:=(show ∃ t,u = Value.int i t from r); subst e; exact mixKind_int P w i t
  | inr x => obtain ⟨t,e⟩:=(show ∃ t,u = Value.str x t from r); subst e; exact mixKind_str P w x t
theorem items_are {P:Program} {w:World}:∀ {ks:List Key} {us:List Value},Vals (ks.map kV) us -> ItemsAre (mixKind P w) ks us
  | [],_,r => by rw [List.map_nil] at r; cases r; exact .nil
  | k :: ks,_,r => by
    rw [List.map_cons] at r
    cases r with
    | cons h t => exact .cons (kV_is h) (items_are t)
noncomputable abbrev KT (H:Hp):List (List Key×V) -> List (List Key×Addr×Value) -> Prop:=Paired fun p q => p.1 = q.1 /\ H q.2.1 = some (.tup (p.1.map kV)) /\ RelV p.2 q.2.2
theorem KT.val {H:Hp} {kvs:List (List Key×V)} {xs:List (List Key×Addr×Value)} (r:KT H kvs xs) (k:List Key):RelO (valV kvs k) ((atKey xs k).map (·.2)):=by
  induction r with
  | nil => exact True.intro
  | @cons p q ps qs h t ih =>
    obtain ⟨h1,_,h2⟩:=h
    by_cases e:p.1 = k
    . have e':q.1 = k:=h1.symm.trans e
      have b:atKey (q :: qs) k = some q.2:=by simp [atKey,List.find?_cons,e']
      rw [valV_pos e,b]; exact h2
    . have e':¬ q.1 = k:=fun z => e (h1.trans z)
      have b:atKey (q :: qs) k = atKey qs k:=by simp [atKey,List.find?_cons,e']
      rw [valV_neg e,b]; exact ih
theorem KT.repl {H:Hp} {kvs:List (List Key×V)} {xs:List (List Key×Addr×Value)} (r:KT H kvs xs) (k:List Key) {y:V} {u:Value} (ry:RelV y u) :
    KT H (kvs.map fun kv => if kv.1 = k then (kv.1,y) else kv) (xs.map (putAt k u)):=by
  induction r with
  | nil => exact .nil
  | @cons p q ps qs h t ih =>
    rw [List.map_cons,List.map_cons]
    refine .cons ?_ ih
    obtain ⟨h1,h2,h3⟩:=h
    unfold putAt
    by_cases e:p.1 = k
    . rw [if_pos e,if_pos (h1.symm.trans e)]; exact ⟨h1,h2,ry⟩
    . rw [if_neg e,if_neg (fun z => e (h1.trans z))]; exact ⟨h1,h2,h3⟩
theorem KT.put {H:Hp} {kvs:List (List Key×V)} {xs:List (List Key×Addr×Value)} (r:KT H kvs xs) (k:List Key) {b:Addr} {y:V} {u:Value} (hb:H b = some (.tup (k.map kV))) (ry:RelV y u) :
    KT H (putK kvs k y) (storedH xs k b u):=by
  have e:(kvs.any fun kv => decide (kv.1 = k)) = (atKey xs k).isSome:=by
    rw [valV_any,(r.val k).isSome_eq,Option.isSome_map]
  unfold putK storedH
  rw [e]
  by_cases q:(atKey xs k).isSome = true
  . rw [if_pos q,if_pos q]; exact r.repl k ry
  . rw [if_neg q,if_neg q]; exact Paired.snoc r ⟨rfl,hb,ry⟩
theorem KT.keeps {H H':Hp} {kvs:List (List Key×V)} {xs:List (List Key×Addr×Value)} (r:KT H kvs xs) (ht:∀ b ys,H b = some (.tup ys) -> H' b = some (.tup ys)):KT H' kvs xs :=
  Paired.mapP r fun _ _ z => ⟨z.1,ht _ _ z.2.1,z.2.2⟩
section
variable {P:Program} {w:World} {H:Hp} {h:Heap} {a:Addr}
theorem rd_of {u:HO} (ok:HOk P w H h) (e:Rd H a u):ObjOk P w H h a u:=e.ok ok
theorem dk_rd {kvs:List (Key×V)} (ok:HOk P w H h) (e:Rd H a (.dK kvs)):kvs.length <= sizeLine /\ (a == sysModules) = false /\ ∃ vs,KV kvs vs /\ h.DictOf (mixKind P w) a vs :=
  show ObjOk P w H h a (.dK kvs) from rd_of ok e
theorem dk_of {kvs:List (Key×V)} (ok:HOk P w H h) (e:H a = some (.dK kvs)):kvs.length <= sizeLine /\ (a == sysModules) = false /\ ∃ vs,KV kvs vs /\ h.DictOf (mixKind P w) a vs:=dk_rd ok (.inl e)
theorem key_of {ks:List Key} (ok:HOk P w H h) (e:H a = some (.tup (ks.map kV))):(tupleKind (mixKind P w)).is h ks a:=by
  obtain ⟨_,its,r,o,h1,h2,n,h3⟩:=(show ObjOk P w H h a (.tup (ks.map kV)) from ok a _ e)
  exact ⟨o,its.toArray,n,h1,h2,h3,by simpa using items_are r⟩
theorem dt_rd {kvs:List (List Key×V)} (ok:HOk P w H h) (e:Rd H a (.dT kvs)):kvs.length <= sizeLine /\ (a == sysModules) = false /\
    ∃ xs,KT H kvs xs /\ h.DictOfH (tupleKind (mixKind P w)) a xs:=by
  obtain ⟨z,y,xs,r,o,es,ep,h1,h2,h3,h4,h5⟩:=(show ObjOk P w H h a (.dT kvs) from rd_of ok e)
  refine ⟨z,y,xs,r,o,es,ep,h1,h2,h3,h4,fun x hx => ?_,h5⟩
  have all:∀ {l:List (List Key×V)} {m:List (List Key×Addr×Value)},KT H l m -> ∀ x ∈ m,(tupleKind (mixKind P w)).is h x.1 x.2.1:=by
    intro l m q
    induction q with
    | nil => intro x hx; exact nomatch hx
    | @cons p q ps qs hq t ih =>
      intro x hx
      rcases List.mem_cons.mp hx with e | hx
      . subst e
        exact key_of ok (by rw [← hq.1]; exact hq.2.1)
      . exact ih x hx
  exact all r x hx
theorem dt_of {kvs:List (List Key×V)} (ok:HOk P w H h) (e:H a = some (.dT kvs)):kvs.length <= sizeLine /\ (a == sysModules) = false /\
    ∃ xs,KT H kvs xs /\ h.DictOfH (tupleKind (mixKind P w)) a xs:=dt_rd ok (.inl e)
end
noncomputable def DGet (H:Hp) (a:Addr) (y:V) (r:Option V):Prop :=
  (∃ kvs k,Rd H a (.dK kvs) /\ y = kV k /\ r = valV kvs k) ∨ ∃ kvs k b,Rd H a (.dT kvs) /\ y = .ref b /\ H b = some (.tup (k.map kV)) /\ r = valV kvs k
noncomputable def DPut (H:Hp) (a:Addr) (y v:V) (H':Hp):Prop :=
  (∃ kvs k,H a = some (.dK kvs) /\ y = kV k /\ kvs.length < sizeLine /\ H' = upd H a (.dK (putK kvs k v))) ∨
  ∃ kvs k b,H a = some (.dT kvs) /\ y = .ref b /\ H b = some (.tup (k.map kV)) /\ kvs.length < sizeLine /\ H' = upd H a (.dT (putK kvs k v))
theorem DPut.k {H:Hp} {a:Addr} {kvs:List (Key×V)} {k:Key} {v:V} (e:H a = some (.dK kvs)) (hl:kvs.length < sizeLine):DPut H a (kV k) v (upd H a (.dK (putK kvs k v))):=.inl ⟨kvs,k,e,rfl,hl,rfl⟩
section
variable {X:Cx} {pins:List (Addr×Obj)} {σ:St} {H:Hp} {s:Shared} {a:Addr} {y v:V} {u r:Value} {o:Option V} {A:Around} {E:Value -> Shared -> Prop}
theorem Inv.big (I:Inv X pins σ H s):sysModules < s.heap.objs.size:=by
  have h:mainGlobals < s.heap.objs.size:=(I.mod.glob.keeps I.bk).lt
  exact Nat.lt_trans (by decide) h
theorem d_getItem {Q:Value -> Shared -> Prop} (hu:A.units + 1 < cLine) (I:Inv X pins σ H s) (g:DGet H a y (some v)) (ry:RelV y u) (h:∀ w' s',Inv X pins σ H s' -> RelV v w' -> Q w' s') :
    wpAny (model X.prog X.w) A (getItem (.ref a) u) Q E s:=by
  rcases g with ⟨kvs,k,e,ey,l⟩ | ⟨kvs,k,b,e,ey,eb,l⟩
  . subst ey
    obtain ⟨z,hd,vs,rel,dd⟩:=dk_rd I.hok e
    obtain ⟨w',hw,rw'⟩:=RelO.some_of (v:=v) (o:=valueAt vs k) (by rw [l]; exact rel.val k)
    exact wpAny_getItem_of (kV_is ry) dd.mapOf hw (h w' _ (I.tok _) rw')
  . subst ey
    cases (show u = Value.ref b from ry)
    obtain ⟨z,hd,xs,rel,dd⟩:=dt_rd I.hok e
    obtain ⟨w',hw,rw'⟩:=RelO.some_of (v:=v) (o:=(atKey xs k).map (·.2)) (by rw [l]; exact rel.val k)
    obtain ⟨p,hp,hp2⟩:=Option.map_eq_some_iff.mp hw
    refine wpAny_getItem_heap (tupleKind_room_in1 hu) (key_of I.hok eb) dd hp ?_
    rw [hp2]
    exact h w' _ (I.tok _) rw'
theorem d_in {Q:Value -> Shared -> Prop} (hu:A.units + 1 < cLine) (I:Inv X pins σ H s) (g:DGet H a y o) (ry:RelV y u) (h:∀ s',Inv X pins σ H s' -> Q (.bool o.isSome) s') :
    wpAny (model X.prog X.w) A (compareOp .In u (.ref a)) Q E s:=by
  rcases g with ⟨kvs,k,e,ey,l⟩ | ⟨kvs,k,b,e,ey,eb,l⟩
  . subst ey
    obtain ⟨z,hd,vs,rel,dd⟩:=dk_rd I.hok e
    refine wpAny_in_of (kV_is ry) hd dd.mapOf ?_
    rw [← (rel.val k).isSome_eq,← l]
    exact h _ (I.tok _)
  . subst ey
    cases (show u = Value.ref b from ry)
    obtain ⟨z,hd,xs,rel,dd⟩:=dt_rd I.hok e
    refine wpAny_in_heap (tupleKind_room_in1 hu) (key_of I.hok eb) hd dd ?_
    have q:=(rel.val k).isSome_eq
    rw [Option.isSome_map] at q
    rw [← q,← l]
    exact h _ (I.tok _)
theorem d_notIn {Q:Value -> Shared -> Prop} (hu:A.units + 1 < cLine) (I:Inv X pins σ H s) (g:DGet H a y o) (ry:RelV y u) (h:∀ s',Inv X pins σ H s' -> Q (.bool (!o.isSome)) s') :
    wpAny (model X.prog X.w) A (compareOp .NotIn u (.ref a)) Q E s:=by
  rcases g with ⟨kvs,k,e,ey,l⟩ | ⟨kvs,k,b,e,ey,eb,l⟩
  . subst ey
    obtain ⟨z,hd,vs,rel,dd⟩:=dk_rd I.hok e
    refine wpAny_notIn_of (kV_is ry) hd dd.mapOf ?_
    rw [← (rel.val k).isSome_eq,← l]
    exact h _ (I.tok _)
  . subst ey
    cases (show u = Value.ref b from ry)
    obtain ⟨z,hd,xs,rel,dd⟩:=dt_rd I.hok e
    refine wpAny_notIn_heap (tupleKind_room_in1 hu) (key_of I.hok eb) hd dd ?_
    have q:=(rel.val k).isSome_eq
    rw [Option.isSome_map] at q
    rw [← q,← l]
    exact h _ (I.tok _)
theorem d_write {h':Heap} {t':Nat} {ob:HO} (I:Inv X pins σ H s) (mu:Mut (H a)) (hs:Heap.SameBut a s.heap h') (he:∃ q,h'.get? a = some q) (new:ObjOk X.prog X.w (upd H a ob) h' a ob) :
    Inv X pins σ (upd H a ob) { s with heap:=h',toks:=t' } :=
  I.write (x:=a) (e:=a) mu (.inl rfl) (fun b q hb z => (hs.2 b hb).trans z) he new
theorem dk_new {P:Program} {w:World} {H':Hp} {h':Heap} {kvs:List (Key×V)} {vs:List (Key×Value)} (z:kvs.length <= sizeLine) (hd:(a == sysModules) = false) (rel:KV kvs vs) (dd:h'.DictOf (mixKind P w) a vs) :
    ObjOk P w H' h' a (.dK kvs):=⟨z,hd,vs,rel,dd⟩
theorem d_setItem {H':Hp} {Q:Unit -> Shared -> Prop} (hu:A.units + 1 < cLine) (I:Inv X pins σ H s) (g:DPut H a y v H') (ry:RelV y u) (rv:RelV v r) (h:∀ s',Inv X pins σ H' s' -> Q () s') :
    wpAny (model X.prog X.w) A (setItem (.ref a) u r) Q E s:=by
  rcases g with ⟨kvs,k,e,ey,l,eH⟩ | ⟨kvs,k,b,e,ey,eb,l,eH⟩
  . subst ey eH
    obtain ⟨z,hd,vs,rel,dd⟩:=dk_of I.hok e
    have hz:vs.length <= sizeLine:=by rw [← rel.length]; exact z
    have hl:(putK kvs k v).length <= sizeLine:=by have:=length_putK kvs k v; omega
    refine wpAny_setItem_pairs (hsz:=hz) (kV_is ry) dd fun h' dd' hs => h _ ?_
    have he:∃ q,h'.get? a = some q:=let ⟨q,_,_,hq,_⟩:=dd'; ⟨q,hq⟩
    exact d_write I (by rw [e]; exact True.intro) hs he (dk_new hl hd (rel.put k rv) dd')
  . subst ey eH
    cases (show u = Value.ref b from ry)
    obtain ⟨z,hd,xs,rel,dd⟩:=dt_of I.hok e
    have hz:xs.length <= sizeLine:=by rw [← Paired.length rel]; exact z
    have hl:(putK kvs k v).length <= sizeLine:=by have:=length_putK kvs k v; omega
    refine wpAny_setItem_heap (hsz:=hz) (tupleKind_room_in1 hu) (key_of I.hok eb) dd fun h' dd' hs => h _ ?_
    obtain ⟨q,es,ep,hq,h2,h3,h4,_,h5⟩:=dd'
    refine d_write I (by rw [e]; exact True.intro) hs ⟨q,hq⟩ ⟨hl,hd,_,(rel.put k eb rv).keeps fun c ys ec => ?_,q,es,ep,hq,h2,h3,h4,h5⟩
    rw [upd_ne (ne_of ec e (fun z => nomatch z))]
    exact ec
end
section
variable {X:Cx} {pins:List (Addr×Obj)} {σ:St} {H:Hp} {s:Shared} {a:Addr} {kvs:List (Key×V)} {k:Key} {u:Value} {A:Around} {E:Value -> Shared -> Prop}
theorem d_pop {v:V} {more:List Value} {Q:Value -> Shared -> Prop} (I:Inv X pins σ H s) (e:H a = some (.dK kvs)) (ry:RelV (kV k) u) (l:valV kvs k = some v) (hm:more = [] ∨ ∃ x,more = [x])
    (h:∀ w' s',Inv X pins σ (upd H a (.dK (dropK kvs k))) s' -> RelV v w' -> Q w' s'):wpAny (model X.prog X.w) A (call (.builtin "dict.pop") (.ref a :: u :: more)) Q E s:=by
  obtain ⟨z,hd,vs,rel,dd⟩:=dk_of I.hok e
  obtain ⟨w',hw,rw'⟩:=RelO.some_of (v:=v) (o:=valueAt vs k) (by rw [← l]; exact rel.val k)
  have hp:(keyPart u).isSome = true:=by
    cases k with
    | inl i => obtain ⟨t,q⟩:=(show ∃ t,u = Value.int i t from ry); subst q; rfl
    | inr x => obtain ⟨t,q⟩:=(show ∃ t,u = Value.str x t from ry); subst q; rfl
  have ha:argsOk "dict.pop" ⟨.ref a :: u :: more,[]⟩:=by
    rcases hm with q | ⟨x,q⟩
    . subst q; exact PySem.F.args_dict_pop_2 _ _
    . subst q; exact PySem.F.args_dict_pop_3 _ _ _
  refine call_meetsIn PySem.F.slot_dict_pop dd.typeIs PySem.F.entry_dict_pop ha (meets_dict_pop_there (mixKind X.prog X.w) a (kV_is ry) more hm hp)
    ⟨vs,w',dd,by rw [← rel.length]; exact z,hw,fun h' dd' hs => h w' _ ?_ rw'⟩
  have he:∃ q,h'.get? a = some q:=let ⟨q,_,_,hq,_⟩:=dd'; ⟨q,hq⟩
  exact d_write I (by rw [e]; exact True.intro) hs he (dk_new (Nat.le_trans (dropK_le kvs k) z) hd (rel.drop k) dd')
end
noncomputable def NoSl (i:Expr):Prop:=∀ ov iv,subscripted i false ov iv = operate [ov,iv] (getItem ov iv)
theorem subD_of {prog:Program} {w:World} {A:Around} {E:Value -> Shared -> Prop} {s:Shared} {env:Env} {value slice:Expr} {pos:Pos} {T id:String} {Q:Value -> Shared -> Prop}
    (hl:typeLookup (.type T) "__getitem__" = pure (some (.builtin id))) (hs:NoSl slice)
    (h:wpAny (model prog w) A (eval value env) (fun o s₁ => wpAny (model prog w) A (eval slice env) (fun i s₂ => s₂.TypeIs o T /\ wpAny (model prog w) A (getItem o i) Q E s₂) E s₁) E s) :
    wpAny (model prog w) A (eval (.Subscript value slice pos) env) Q E s:=by
  refine Subscript_ (wpAny_mono h (fun o s₁ h₁ => wpAny_mono h₁ (fun i s₂ h₂ => ?_) fun _ _ x => x) fun _ _ x => x)
  obtain ⟨hT,h₂⟩:=h₂
  unfold subscriptTail
  refine wpAny_bind ?_
  rw [getitemInPython_of_ne hT.not_modules]
  refine wpAny_bind (wpAny_specialOf hT hl ?_)
  have fin:wpAny (model prog w) A (subscripted slice false o i) (fun r s₃ => wpAny (model prog w) A (letTemporaryGo value o r >>= fun _ => pure r) Q E s₃) E s₂:=by
    rw [hs o i]
    exact wpAny_operating (wpAny_mono h₂ (fun r s₃ h₃ => wpAny_bind (wpAny_letTemporaryGo (wpAny_pure h₃))) fun _ _ x => x)
  first
    | exact wpAny_pure (wpAny_bind fin)
    | exact wpAny_bind (wpAny_pure (wpAny_bind fin))
    | exact wpAny_bind fin
theorem dict_typeIs {X:Cx} {pins:List (Addr×Obj)} {σ:St} {H:Hp} {s:Shared} {a:Addr} {y:V} {o:Option V} (I:Inv X pins σ H s) (g:DGet H a y o):s.TypeIs (.ref a) "dict":=by
  rcases g with ⟨kvs,k,e,_,_⟩ | ⟨kvs,k,b,e,_,_,_⟩
  . obtain ⟨_,_,vs,_,dd⟩:=dk_rd I.hok e
    exact dd.typeIs
  . obtain ⟨_,_,xs,_,dd⟩:=dt_rd I.hok e
    exact dd.typeIs
noncomputable def tDGet (td ty:TE):TE:=fun σ H Q => td σ H fun x H1 => ty σ H1 fun y H2 => ∃ a v,x = .ref a /\ DGet H2 a y (some v) /\ Q v H2
noncomputable def tDIn (ty td:TE):TE:=fun σ H Q => ty σ H fun y H1 => td σ H1 fun x H2 => ∃ a o,x = .ref a /\ DGet H2 a y o /\ Q (.bl o.isSome) H2
noncomputable def tDNotIn (ty td:TE):TE:=fun σ H Q => ty σ H fun y H1 => td σ H1 fun x H2 => ∃ a o,x = .ref a /\ DGet H2 a y o /\ Q (.bl (!o.isSome)) H2
noncomputable def sDPut (td ty tv:TE):TS:=fun D σ H => tv σ H fun v H1 => td σ H1 fun x H2 => ty σ H2 fun y H3 => ∃ a H4,x = .ref a /\ DPut H3 a y v H4 /\ D.nx σ H4
section
variable {X:Cx} {o i e value:Expr} {pos pos' tpos:Pos} {td ty tv:TE}
theorem pe_dget (hu:X.A.units + 1 < cLine) (ho:PE X o td) (hi:PE X i ty) (hs:NoSl i):PE X (.Subscript o i pos) (tDGet td ty):=by
  intro pins s σ H Q I h
  refine subD_of PySem.F.slot_dict_getitem.lookup hs (thn (ho pins s σ H _ I h) fun u s1 ⟨x,H1,I1,rx,q1⟩ => thn (hi pins s1 σ H1 _ I1 q1) fun iv s2 ⟨y,H2,I2,ry,a,v,ex,g,q2⟩ => ?_)
  subst ex
  obtain rfl:u = Value.ref a:=rx
  exact ⟨dict_typeIs I2 g,d_getItem hu I2 g ry fun w' s3 I3 rw' => ⟨v,H2,I3,rw',q2⟩⟩
theorem pc_din (hu:X.A.units + 1 < cLine) (hi:PE X i ty) (ho:PE X o td):PC X .In i o (tDIn ty td):=by
  intro pins s σ H Q I h
  refine thn (hi pins s σ H _ I h) fun iv s1 ⟨y,H1,I1,ry,q1⟩ => thn (ho pins s1 σ H1 _ I1 q1) fun u s2 ⟨x,H2,I2,rx,a,ov,ex,g,q2⟩ => ?_
  subst ex
  obtain rfl:u = Value.ref a:=rx
  exact d_in hu I2 g ry fun s3 I3 => ⟨.bl ov.isSome,H2,I3,rfl,q2⟩
theorem pc_dnotin (hu:X.A.units + 1 < cLine) (hi:PE X i ty) (ho:PE X o td):PC X .NotIn i o (tDNotIn ty td):=by
  intro pins s σ H Q I h
  refine thn (hi pins s σ H _ I h) fun iv s1 ⟨y,H1,I1,ry,q1⟩ => thn (ho pins s1 σ H1 _ I1 q1) fun u s2 ⟨x,H2,I2,rx,a,ov,ex,g,q2⟩ => ?_
  subst ex
  obtain rfl:u = Value.ref a:=rx
  exact d_notIn hu I2 g ry fun s3 I3 => ⟨.bl (!ov.isSome),H2,I3,rfl,q2⟩
theorem ps_dput (hu:X.A.units + 1 < cLine) (ho:PE X o td) (hi:PE X i ty) (hv:PE X value tv) (hs:swapsWith value (some (.Subscript o i pos')) pos.line X.env = pure false) :
    PS X (.Assign [.Subscript o i pos'] value pos) (sDPut td ty tv):=by
  intro pins s σ H D I h
  refine wpAny_Assign_Subscript (thn (hv pins s σ H _ I h) fun r s1 ⟨v,H1,I1,rv,q1⟩ => thn (ho pins s1 σ H1 _ I1 q1) fun u s2 ⟨x,H2,I2,rx,q2⟩ => thn (hi pins s2 σ H2 _ I2 q2) fun iv s3 ⟨y,H3,I3,ry,a,H4,ex,g,q3⟩ => ?_) hs
  subst ex
  obtain rfl:u = Value.ref a:=rx
  exact d_setItem hu I3 g ry rv fun s4 I4 => ⟨σ,H4,I4,q3⟩
end
theorem dk_empty {P:Program} {w:World} {H:Hp} (h:Heap) (hb:sysModules < h.objs.size):ObjOk P w H (h.push { cls:=.type "dict",data:=.dict #[] }) h.objs.size (.dK []) :=
  ⟨Nat.zero_le _,beq_eq_false_iff_ne.mpr (Ne.symm (Nat.ne_of_lt hb)),[],.nil,Heap.DictOf.new h⟩
noncomputable def tDNewK:TE:=fun _ H Q => ∀ p,H p = none -> Q (.ref p) (upd H p (.dK []))
section
variable {X:Cx} {pos:Pos}
theorem pe_dnewK:PE X (.Dict [] [] pos) tDNewK:=fun pins s σ H Q I h =>
  wpAny_Dict_empty ⟨.ref s.heap.objs.size,_,I.laid (a:=s.heap.objs.size) (o:=.dK []) (t':=s.toks) (fun _ _ q => Heap.get?_push_of_some _ q) (Nat.le_refl _) (dk_empty s.heap I.big),rfl,h _ (I.hok.fresh (Nat.le_refl _))⟩
end
noncomputable def tPairs:List (TE×TE) -> St -> Hp -> (List (V×V) -> Hp -> Prop) -> Prop
  | [],_,H,Q => Q [] H
  | (tk,tv) :: r,σ,H,Q => tk σ H fun x H1 => tv σ H1 fun y H2 => tPairs r σ H2 fun ps H3 => Q ((x,y) :: ps) H3
noncomputable abbrev VV:List (V×V) -> List (Value×Value) -> Prop:=Paired fun p q => RelV p.1 q.1 /\ RelV p.2 q.2
noncomputable def PPs (X:Cx) (pos:Pos) (keys:List (Option Expr)) (values:List Expr) (trs:List (TE×TE)):Prop :=
  ∀ (pins:List (Addr×Obj)) (s:Shared) (σ:St) (H:Hp) (Q:List (V×V) -> Hp -> Prop),Inv X pins σ H s -> tPairs trs σ H Q ->
    wpAny (model X.prog X.w) X.A (evalPairs (pairTrees keys values X.env pos)) (fun vs s' => ∃ ps H',Inv X pins σ H' s' /\ VV ps vs /\ Q ps H') X.xe s
theorem pps_nil {X:Cx} {pos:Pos}:PPs X pos [] [] []:=fun pins s σ H Q I h => pairTrees_nil_walk ⟨[],H,I,.nil,h⟩
theorem pps_cons {X:Cx} {pos:Pos} {k v:Expr} {ks:List (Option Expr)} {vs:List Expr} {tk tv:TE} {trs:List (TE×TE)} (hk:PE X k tk) (hv:PE X v tv) (hr:PPs X pos ks vs trs) :
    PPs X pos (some k :: ks) (v :: vs) ((tk,tv) :: trs):=fun pins s σ H Q I h =>
  pairTrees_cons_walk (thn (hk pins s σ H _ I h) fun u s1 ⟨x,H1,I1,rx,q1⟩ => thn (hv pins s1 σ H1 _ I1 q1) fun w2 s2 ⟨y,H2,I2,ry,q2⟩ =>
    thn (hr pins s2 σ H2 _ I2 q2) fun ws s3 ⟨ps,H3,I3,rel,q3⟩ => ⟨(x,y) :: ps,H3,I3,.cons ⟨rx,ry⟩ rel,q3⟩)
noncomputable def mergeK (kvs more:List (Key×V)):List (Key×V):=more.foldl (fun acc kv => putK acc kv.1 kv.2) kvs
theorem KV.merge:∀ {more:List (Key×V)} {rs:List (Key×Value)} {kvs:List (Key×V)} {vs:List (Key×Value)},KV more rs -> KV kvs vs -> KV (mergeK kvs more) (merged vs rs):=by
  intro more rs kvs vs r
  unfold KV at r
  induction r generalizing kvs vs with
  | nil => intro q; exact q
  | @cons p q ps qs h t ih =>
    intro r0
    have e:KV (putK kvs p.1 p.2) (stored vs q.1 q.2):=by
      have:=r0.put p.1 h.2
      rw [← h.1]; exact this
    exact ih e
theorem length_mergeK:∀ (more kvs:List (Key×V)),(mergeK kvs more).length <= kvs.length + more.length
  | [],kvs => by show kvs.length <= kvs.length + 0; omega
  | p :: r,kvs => by
    have h1:=length_mergeK r (putK kvs p.1 p.2)
    have h2:=length_putK kvs p.1 p.2
    show (mergeK (putK kvs p.1 p.2) r).length <= _
    rw [List.length_cons]; omega
theorem carries_of {P:Program} {w:World}:∀ {kvs:List (Key×V)} {ws:List (Value×Value)},VV (kvs.map fun kv => (kV kv.1,kv.2)) ws -> ∃ rs,Carries (mixKind P w) ws rs /\ KV kvs rs
  | [],_,r => by rw [List.map_nil] at r; cases r; exact ⟨[],True.intro,.nil⟩
  | p :: kvs,_,r => by
    rw [List.map_cons] at r
    cases r with
    | @cons a b as bs h t =>
      obtain ⟨rs,c,q⟩:=carries_of (P:=P) (w:=w) t
      obtain ⟨b1,b2⟩:=b
      exact ⟨(p.1,b2) :: rs,⟨kV_is h.1,rfl,c⟩,.cons ⟨rfl,h.2⟩ q⟩
noncomputable def tDisp (trs:List (TE×TE)):TE:=fun σ H Q => ∀ p,H p = none -> tPairs trs σ (upd H p (.dK [])) fun ps H2 => H2 p = some (.dK []) /\ ∃ kvs:List (Key×V),ps = kvs.map (fun kv => (kV kv.1,kv.2)) /\ kvs.length <= 15 /\ Q (.ref p) (upd H2 p (.dK (mergeK [] kvs)))
theorem pe_disp {X:Cx} {pos:Pos} {keys:List (Option Expr)} {values:List Expr} {trs:List (TE×TE)} (h:PPs X pos keys values trs) (hall:keys.all (·.isSome) = true) (hl:keys.length = values.length) (h0:keys ≠ [])
    (h15:keys.length <= 15):PE X (.Dict keys values pos) (tDisp trs):=by
  intro pins s σ H Q I q
  have hn:=I.hok.fresh (Nat.le_refl s.heap.objs.size)
  have I1:=I.laid (a:=s.heap.objs.size) (o:=.dK []) (h':=s.heap.push { cls:=.type "dict",data:=.dict #[] }) (t':=s.toks) (fun _ _ q => Heap.get?_push_of_some _ q) (Nat.le_refl _) (dk_empty s.heap I.big)
  refine wpAny_Dict_walk (knd:=mixKind X.prog X.w) hall hl h0 h15 (thn (h pins _ σ _ _ I1 (q _ hn)) fun ws s2 ⟨ps,H2,I2,rel,e,kvs,ep,lk,q2⟩ => ?_)
  subst ep
  obtain ⟨rs,c,rk⟩:=carries_of (P:=X.prog) (w:=X.w) rel
  obtain ⟨z,hd,vs0,r0,dd⟩:=dk_of I2.hok e
  cases r0
  refine ⟨rs,c,dd,fun h' dd' hs => ⟨.ref s.heap.objs.size,_,?_,rfl,q2⟩⟩
  have hz:(mergeK [] kvs).length <= sizeLine:=by
    have h1:=length_mergeK kvs []
    rw [List.length_nil] at h1
    rw [sizeLine_eq]; omega
  have he:∃ q,h'.get? s.heap.objs.size = some q:=let ⟨q,_,_,hq,_⟩:=dd'; ⟨q,hq⟩
  exact d_write I2 (by rw [e]; exact True.intro) hs he (dk_new hz hd (rk.merge .nil) dd')
structure M1 (X:Cx) (o:Expr) (m:Str) (apos:Pos) (e:Expr) (cpos:Pos):Prop where
  base:attributeBase o m X.env (eval o X.env) = eval o X.env
  few:((backTo cpos (starEach [e] X.env)).all (fun x => !x.1) && (backToKw cpos (keywordEach [] X.env)).all (fun x => x.1.isSome)
    && decide (([e]:List Expr).length + ([]:List Keyword).length + (if ([]:List Keyword).isEmpty then 0 else 1) < 30)) = true
  line:(apos.endLine == cpos.line) = true
  trees:backTo cpos (starEach [e] X.env) = [(false,eval e X.env)]
structure M2 (X:Cx) (o:Expr) (m:Str) (apos:Pos) (e f:Expr) (cpos:Pos):Prop where
  base:attributeBase o m X.env (eval o X.env) = eval o X.env
  few:((backTo cpos (starEach [e,f] X.env)).all (fun x => !x.1) && (backToKw cpos (keywordEach [] X.env)).all (fun x => x.1.isSome)
    && decide (([e,f]:List Expr).length + ([]:List Keyword).length + (if ([]:List Keyword).isEmpty then 0 else 1) < 30)) = true
  line:(apos.endLine == cpos.line) = true
  trees:backTo cpos (starEach [e,f] X.env) = [(false,eval e X.env),(false,eval f X.env)]
noncomputable def IsD (H:Hp) (a:Addr):Prop:=(∃ kvs,Rd H a (.dK kvs)) ∨ ∃ kvs,Rd H a (.dT kvs)
theorem isD_at {X:Cx} {pins:List (Addr×Obj)} {σ:St} {H:Hp} {s:Shared} {a:Addr} (I:Inv X pins σ H s) (d:IsD H a) :
    s.TypeIs (.ref a) "dict" /\ (∀ b,Value.ref a = .ref b -> ∃ ob,s.heap.get? b = some ob /\ ob.dict = none) /\ (a == sysModules) = false:=by
  rcases d with ⟨kvs,e⟩ | ⟨kvs,e⟩
  . obtain ⟨_,hd,vs,_,dd⟩:=dk_rd I.hok e
    refine ⟨dd.typeIs,fun b q => ?_,hd⟩
    cases q
    obtain ⟨ob,_,_,h1,h2,_⟩:=dd
    exact ⟨ob,h1,h2.2.1⟩
  . obtain ⟨_,hd,xs,_,dd⟩:=dt_rd I.hok e
    refine ⟨dd.typeIs,fun b q => ?_,hd⟩
    cases q
    obtain ⟨ob,_,_,h1,h2,_⟩:=dd
    exact ⟨ob,h1,h2.2.1⟩
section
variable {X:Cx} {pins:List (Addr×Obj)} {σ:St} {H:Hp} {s:Shared} {a:Addr} {y d:V} {u r:Value} {o:Option V} {A:Around} {E:Value -> Shared -> Prop}
theorem d_get1 {Q:Value -> Shared -> Prop} (hu:A.units + 1 < cLine) (I:Inv X pins σ H s) (g:DGet H a y o) (ry:RelV y u) (h:∀ w' s',Inv X pins σ H s' -> RelV (o.getD .non) w' -> Q w' s') :
    wpAny (model X.prog X.w) A (call (.builtin "dict.get") [.ref a,u]) Q E s:=by
  rcases g with ⟨kvs,k,e,ey,l⟩ | ⟨kvs,k,b,e,ey,eb,l⟩
  . subst ey
    obtain ⟨z,hd,vs,rel,dd⟩:=dk_rd I.hok e
    refine call_meetsIn PySem.F.slot_dict_get dd.typeIs PySem.F.entry_dict_get (PySem.F.args_dict_get_2 _ _) (meets_dict_get (mixKind X.prog X.w) a (kV_is ry) hd) ⟨_,dd.mapOf,h _ _ (I.tok _) ?_⟩
    rw [l]
    exact (rel.val k).getD rfl
  . subst ey
    cases (show u = Value.ref b from ry)
    obtain ⟨z,hd,xs,rel,dd⟩:=dt_rd I.hok e
    refine call_meetsIn PySem.F.slot_dict_get dd.typeIs PySem.F.entry_dict_get (PySem.F.args_dict_get_2 _ _) (meetsH_dict_get (tupleKind (mixKind X.prog X.w)) a b hd) ⟨tupleKind_room_in1 hu,k,xs,key_of I.hok eb,dd,h _ _ (I.tok _) ?_⟩
    rw [l]
    exact (rel.val k).getD rfl
theorem d_get2 {Q:Value -> Shared -> Prop} (hu:A.units + 1 < cLine) (I:Inv X pins σ H s) (g:DGet H a y o) (ry:RelV y u) (rd:RelV d r) (h:∀ w' s',Inv X pins σ H s' -> RelV (o.getD d) w' -> Q w' s') :
    wpAny (model X.prog X.w) A (call (.builtin "dict.get") [.ref a,u,r]) Q E s:=by
  rcases g with ⟨kvs,k,e,ey,l⟩ | ⟨kvs,k,b,e,ey,eb,l⟩
  . subst ey
    obtain ⟨z,hd,vs,rel,dd⟩:=dk_rd I.hok e
    refine call_meetsIn PySem.F.slot_dict_get dd.typeIs PySem.F.entry_dict_get (PySem.F.args_dict_get_3 _ _ _) (meets_dict_get_default (mixKind X.prog X.w) a (kV_is ry) hd r) ⟨_,dd.mapOf,h _ _ (I.tok _) ?_⟩
    rw [l]
    exact (rel.val k).getD rd
  . subst ey
    cases (show u = Value.ref b from ry)
    obtain ⟨z,hd,xs,rel,dd⟩:=dt_rd I.hok e
    refine call_meetsIn PySem.F.slot_dict_get dd.typeIs PySem.F.entry_dict_get (PySem.F.args_dict_get_3 _ _ _) (meetsH_dict_get_default (tupleKind (mixKind X.prog X.w)) a b hd r) ⟨tupleKind_room_in1 hu,k,xs,key_of I.hok eb,dd,h _ _ (I.tok _) ?_⟩
    rw [l]
    exact (rel.val k).getD rd
end
noncomputable def tDGet1 (td ty:TE):TE:=fun σ H Q => td σ H fun x H1 => ∃ a,x = .ref a /\ IsD H1 a /\ ty σ H1 fun y H2 => ∃ o,DGet H2 a y o /\ Q (o.getD .non) H2
noncomputable def tDGet2 (td ty tx:TE):TE:=fun σ H Q => td σ H fun x H1 => ∃ a,x = .ref a /\ IsD H1 a /\ ty σ H1 fun y H2 => tx σ H2 fun z H3 => ∃ o,DGet H3 a y o /\ Q (o.getD z) H3
noncomputable def tDPop1 (td ty:TE):TE:=fun σ H Q => td σ H fun x H1 => ∃ a,x = .ref a /\ IsD H1 a /\ ty σ H1 fun y H2 => ∃ kvs k v,H2 a = some (.dK kvs) /\ y = kV k /\ valV kvs k = some v /\ Q v (upd H2 a (.dK (dropK kvs k)))
section
variable {X:Cx} {o e f:Expr} {apos cpos:Pos} {td ty tx:TE}
theorem pe_dget1 (hu:X.A.units + 1 < cLine) (ho:PE X o td) (he:PE X e ty) (m:M1 X o "get" apos e cpos):PE X (.Call (.Attribute o "get" apos) [e] [] cpos) (tDGet1 td ty):=by
  intro pins s σ H Q I h
  refine wpAny_Call_method m.base m.few m.line PySem.F.plainAttrs_dict PySem.F.slot_dict_get PySem.F.type_dict_get (thn (ho pins s σ H _ I h) fun u s1 ⟨x,H1,I1,rx,a,ex,d,q1⟩ => ?_)
  subst ex
  obtain rfl:u = Value.ref a:=rx
  obtain ⟨t1,t2,_⟩:=isD_at I1 d
  refine ⟨t1,t2,?_⟩
  rw [m.trees]
  refine Calls.callWith_builtin rfl (Calls.evalArgs_plain (Calls.spliced_cons (thn (he pins s1 σ H1 _ I1 q1) fun iv s2 ⟨y,H2,I2,ry,ov,g,q2⟩ => Calls.spliced_nil ?_)))
  exact d_get1 hu I2 g ry fun w' s3 I3 rw' => ⟨_,H2,I3,rw',q2⟩
theorem pe_dget2 (hu:X.A.units + 1 < cLine) (ho:PE X o td) (he:PE X e ty) (hf:PE X f tx) (m:M2 X o "get" apos e f cpos):PE X (.Call (.Attribute o "get" apos) [e,f] [] cpos) (tDGet2 td ty tx):=by
  intro pins s σ H Q I h
  refine wpAny_Call_method m.base m.few m.line PySem.F.plainAttrs_dict PySem.F.slot_dict_get PySem.F.type_dict_get (thn (ho pins s σ H _ I h) fun u s1 ⟨x,H1,I1,rx,a,ex,d,q1⟩ => ?_)
  subst ex
  obtain rfl:u = Value.ref a:=rx
  obtain ⟨t1,t2,_⟩:=isD_at I1 d
  refine ⟨t1,t2,?_⟩
  rw [m.trees]
  refine Calls.callWith_builtin rfl (Calls.evalArgs_plain (Calls.spliced_cons (thn (he pins s1 σ H1 _ I1 q1) fun iv s2 ⟨y,H2,I2,ry,q2⟩ =>
    Calls.spliced_cons (thn (hf pins s2 σ H2 _ I2 q2) fun fv s3 ⟨z,H3,I3,rz,ov,g,q3⟩ => Calls.spliced_nil ?_))))
  exact d_get2 hu I3 g ry rz fun w' s4 I4 rw' => ⟨_,H3,I4,rw',q3⟩
theorem pe_dpop1 (ho:PE X o td) (he:PE X e ty) (m:M1 X o "pop" apos e cpos):PE X (.Call (.Attribute o "pop" apos) [e] [] cpos) (tDPop1 td ty):=by
  intro pins s σ H Q I h
  refine wpAny_Call_method m.base m.few m.line PySem.F.plainAttrs_dict PySem.F.slot_dict_pop PySem.F.type_dict_pop (thn (ho pins s σ H _ I h) fun u s1 ⟨x,H1,I1,rx,a,ex,d,q1⟩ => ?_)
  subst ex
  obtain rfl:u = Value.ref a:=rx
  obtain ⟨t1,t2,_⟩:=isD_at I1 d
  refine ⟨t1,t2,?_⟩
  rw [m.trees]
  refine Calls.callWith_builtin rfl (Calls.evalArgs_plain (Calls.spliced_cons (thn (he pins s1 σ H1 _ I1 q1) fun iv s2 ⟨y,H2,I2,ry,kvs,k,v,ea,ey,l,q2⟩ => Calls.spliced_nil ?_)))
  subst ey
  exact d_pop I2 ea ry l (.inl rfl) fun w' s3 I3 rw' => ⟨v,_,I3,rw',q2⟩
end
section
variable {X:Cx} {pins:List (Addr×Obj)} {σ:St} {H:Hp} {s:Shared} {a:Addr} {kvs:List (Key×V)} {A:Around} {E:Value -> Shared -> Prop}
end
section
variable {X:Cx} {pins:List (Addr×Obj)} {σ:St} {H:Hp} {s:Shared} {a:Addr} {y:V} {u:Value} {A:Around} {E:Value -> Shared -> Prop}
end
end L2
namespace L2
open PySem PySem.Spec PyProof.Rows
section
variable {κ:Type} [DecidableEq κ]
theorem dropK_pos {p:κ×V} {r:List (κ×V)} {k:κ} (e:p.1 = k):dropK (p :: r) k = dropK r k:=by
  unfold dropK
  rw [List.filter_cons,if_neg (by simp [e])]
theorem dropK_neg {p:κ×V} {r:List (κ×V)} {k:κ} (e:¬ p.1 = k):dropK (p :: r) k = p :: dropK r k:=by
  unfold dropK
  rw [List.filter_cons,if_pos (by simp [e])]
end
end L2
namespace L2
open PySem PySem.Spec PyProof.Rows
noncomputable def Sm (n:Nat) (x:Int):Prop:=x.natAbs < 2 ^ n
theorem Sm.mono {m n:Nat} {x:Int} (h:Sm m x) (l:m <= n):Sm n x:=Nat.lt_of_lt_of_le h (Nat.pow_le_pow_right (by decide) l)
theorem Sm.bits {n:Nat} {x:Int} (h:Sm n x):Builtin.Int.intBits x <= n:=by
  unfold Builtin.Int.intBits
  split
  . exact Nat.zero_le _
  . have hn:x.natAbs < 2 ^ n:=h
    rename_i hx
    have h0 : x.natAbs ≠ 0 := fun e => hx (by have : x = 0 := by omega
                                              rw [this]; rfl)
    have:x.natAbs.log2 < n:=(Nat.log2_lt h0).mpr hn
    omega
theorem Sm.mulOk {a b:Int} {m n:Nat} (ha:Sm m a) (hb:Sm n b) (h:m + n <= 134217728):IntMulOk a b:=PyProof.Rows.mulOk_of_bits ha.bits hb.bits h
theorem Sm.log2 {n:Nat} {x:Int} (h:Sm n x):x.natAbs.log2 < n + 1:=by
  have hn:x.natAbs < 2 ^ n:=h
  by_cases h0:x.natAbs = 0
  . rw [h0,Nat.log2_zero]; omega
  . have:=(Nat.log2_lt h0).mpr hn
    omega
theorem Sm.of {n:Nat} {x:Int} (h1:-(2 ^ n:Nat) < x) (h2:x < (2 ^ n:Nat)):Sm n x:=by
  unfold Sm
  generalize 2 ^ n = k at *
  omega
theorem Sm.mul {a b:Int} {m n:Nat} (ha:Sm m a) (hb:Sm n b):Sm (m + n) (a * b):=by
  unfold Sm at *
  rw [Int.natAbs_mul,Nat.pow_add]
  exact Nat.mul_lt_mul'' ha hb
theorem Sm.add {a b:Int} {n:Nat} (ha:Sm n a) (hb:Sm n b):Sm (n + 1) (a + b):=by
  unfold Sm at *
  rw [Nat.pow_succ]
  have:=Int.natAbs_add_le a b
  omega
theorem Sm.le {a b:Int} {n:Nat} (h:a.natAbs <= b.natAbs) (hb:Sm n b):Sm n a:=Nat.lt_of_le_of_lt h hb
section
variable {X:Cx}
noncomputable def CDivB (_ j:Int):Prop:=j ≠ 0 /\ Sm 8000 j
theorem op_fdivB:OpR X (binaryOp .FloorDiv) (rI CDivB fun i j => .int (i.fdiv j)):=opI fun _ _ _ _ _ _ _ hc q => floordiv_int hc.1 q (.inl (PyProof.noPylong_of_log2 (Nat.lt_trans hc.2.log2 (by decide))))
noncomputable def CMulB (i j:Int):Prop:=CMul i j ∨ (Sm 60000000 i /\ Sm 60000000 j)
theorem CMulB.ok {i j:Int} (h:CMulB i j):IntMulOk i j:=by
  rcases h with h | ⟨h1,h2⟩
  . exact h.ok
  . exact h1.mulOk h2 (by decide)
theorem CMulB.l {i j:Int} (h1:-(2 ^ 64) < i) (h2:i < 2 ^ 64):CMulB i j:=.inl (.inl ⟨h1,h2⟩)
theorem CMulB.r {i j:Int} (h1:-(2 ^ 64) < j) (h2:j < 2 ^ 64):CMulB i j:=.inl (.inr ⟨h1,h2⟩)
theorem CMulB.s {i j:Int} {m n:Nat} (h1:Sm m i) (h2:Sm n j) (hm:m <= 60000000) (hn:n <= 60000000):CMulB i j:=.inr ⟨h1.mono hm,h2.mono hn⟩
theorem op_mulB:OpR X (binaryOp .Mult) (rI CMulB fun i j => .int (i * j)):=opI fun _ _ _ _ _ _ _ hc q => mul_int q hc.ok
noncomputable def rIsTy (K:PySem.W.Frag) (T:String):List V -> Hp -> VK -> Prop:=fun xs H Q => ∃ x t b,xs = [x,.ty T] /\ TyOf K H x t /\ PySem.W.kitOne K t (.type T) = some b /\ Q (.bl b) H
theorem call_isTy {T:String}:CallR X (.builtin "isinstance") (rIsTy X.K T):=by
  intro pins s σ H xs us Q I r h
  obtain ⟨x,t,b,rfl,ty,e,q⟩:=h
  obtain ⟨u,v,rfl,ru,rv⟩:=Vals.two r
  obtain rfl:v = Value.type T:=rv
  exact isinst_ok I ru ty e fun tk => ⟨.bl b,H,I.tok tk,rfl,q⟩
end
section
variable {σ:St} {H H':Hp} {Q:VK} {D:Ends} {t u:TS} {te ta tb:TE} {v w x:V} {i j:Int} {b c:Bool} {X:Cx} {K:PySem.W.Frag}
theorem r_var {n:Nat} (h:σ[n]? = some (some v)) (k:Q v H):tVar n σ H Q:=⟨v,h,k⟩
theorem r_c (k:Q v H):tC v σ H Q:=k
theorem r_seq (k:t ⟨u D,D.rt,D.bk,D.ct⟩ σ H):tSeq t u D σ H:=k
theorem r_nx {n r b' c'} (k:n σ H):Ends.nx ⟨n,r,b',c'⟩ σ H:=k
theorem r_rt {n r b' c'} (k:r v H):Ends.rt ⟨n,r,b',c'⟩ v H:=k
theorem r_ct {n r b' c'} (k:c' σ H):Ends.ct ⟨n,r,b',c'⟩ σ H:=k
theorem r_next (k:D.nx σ H):tNext D σ H:=k
theorem r_cont (k:D.ct σ H):tCont D σ H:=k
theorem r_asg {g:TG} (k:te σ H fun x H1 => g x σ H1 D.nx):tAsg te g D σ H:=k
theorem r_gname {n:Nat} {R:St -> Hp -> Prop} (k:R (σ.set n (some v)) H):gName n v σ H R:=k
theorem r_op {r:R2} (k:ta σ H fun x H1 => tb σ H1 fun y H2 => r x y H2 Q):tOp r ta tb σ H Q:=k
theorem r_un {r} (k:ta σ H fun x H1 => r x H1 Q):tUn r ta σ H Q:=k
theorem r_I0 {g} (k:Q (g i j) H):rI0 g (.int i) (.int j) H Q:=⟨i,j,rfl,rfl,k⟩
theorem r_I {C g} (c:C i j) (k:Q (g i j) H):rI C g (.int i) (.int j) H Q:=⟨i,j,rfl,rfl,c,k⟩
theorem r_U {g} (k:Q (g i) H):rU g (.int i) H Q:=⟨i,rfl,k⟩
noncomputable def bK (R:Bool -> Hp -> Prop):VK:=fun x H => ∃ k,x = .bl k /\ R k H
theorem r_bK {R:Bool -> Hp -> Prop} (k:R b H):bK R (.bl b) H:=⟨b,rfl,k⟩
theorem r_test {R:Bool -> Hp -> Prop} (k:te σ H (bK R)):tTest te σ H R:=k
theorem r_tB {R:Bool -> Hp -> Prop} (k:te σ H (bK R)):tB te σ H R:=k
theorem r_ifS {tc:TT} (k:tc σ H fun b H1 => if b = true then t D σ H1 else u D σ H1):tIfS tc t u D σ H:=k
theorem r_if {tc:TT} (k:tc σ H fun b H1 => if b = true then ta σ H1 Q else tb σ H1 Q):tIf tc ta tb σ H Q:=k
theorem r_and {ca cb:TT} {R:Bool -> Hp -> Prop} (k:ca σ H fun c H1 => if c = true then cb σ H1 R else R false H1):tAnd ca cb σ H R:=k
theorem r_or {ca cb:TT} {R:Bool -> Hp -> Prop} (k:ca σ H fun c H1 => if c = true then R true H1 else cb σ H1 R):tOr ca cb σ H R:=k
theorem r_not {ca:TT} {R:Bool -> Hp -> Prop} (k:ca σ H fun c H1 => R (!c) H1):tNot ca σ H R:=k
noncomputable def andK (tb:TE) (σ:St) (Q:VK):VK:=fun x H1 => ∃ c,x = .bl c /\ if c = true then tb σ H1 Q else Q (.bl false) H1
noncomputable def orK (tb:TE) (σ:St) (Q:VK):VK:=fun x H1 => ∃ c,x = .bl c /\ if c = true then Q (.bl true) H1 else tb σ H1 Q
noncomputable def notK (Q:VK):VK:=fun x H1 => ∃ c,x = .bl c /\ Q (.bl (!c)) H1
theorem r_andV (k:ta σ H (andK tb σ Q)):tAndV ta tb σ H Q:=k
theorem r_orV (k:ta σ H (orK tb σ Q)):tOrV ta tb σ H Q:=k
theorem r_notV (k:ta σ H (notK Q)):tNotV ta σ H Q:=k
theorem r_andK (k:if c = true then tb σ H Q else Q (.bl false) H):andK tb σ Q (.bl c) H:=⟨c,rfl,k⟩
theorem r_orK (k:if c = true then Q (.bl true) H else tb σ H Q):orK tb σ Q (.bl c) H:=⟨c,rfl,k⟩
theorem r_notK (k:Q (.bl (!c)) H):notK Q (.bl c) H:=⟨c,rfl,k⟩
theorem r_ret (k:te σ H D.rt):tRet te D σ H:=k
theorem r_drop (k:te σ H fun _ H1 => D.nx σ H1):tDrop te D σ H:=k
theorem r_nil {R:List V -> Hp -> Prop} (k:R [] H):tNil σ H R:=k
theorem r_cons {tr:TA} {R:List V -> Hp -> Prop} (k:ta σ H fun x H1 => tr σ H1 fun xs H2 => R (x :: xs) H2):tCons ta tr σ H R:=k
noncomputable def tupK (Q:VK):List V -> Hp -> Prop:=fun xs H1 => xs.length <= sizeLine /\ ∀ p,H1 p = none -> Q (.ref p) (upd H1 p (.tup xs))
noncomputable def lstK (Q:VK):List V -> Hp -> Prop:=fun xs H1 => xs.length <= sizeLine /\ ∀ p,H1 p = none -> Q (.ref p) (upd H1 p (.lst xs))
theorem le_line {n:Nat} (h:n <= 1000):n <= sizeLine:=Nat.le_of_lt (small1000 h)
theorem r_tup {tr:TA} (k:tr σ H (tupK Q)):tTup tr σ H Q:=k
theorem r_lst {tr:TA} (k:tr σ H (lstK Q)):tLst tr σ H Q:=k
theorem r_tupK {xs:List V} (k:∀ p,H p = none -> Q (.ref p) (upd H p (.tup xs))) (h:xs.length <= 1000:=by exact Nat.le_of_ble_eq_true rfl):tupK Q xs H:=⟨le_line h,k⟩
theorem r_lstK {xs:List V} (k:∀ p,H p = none -> Q (.ref p) (upd H p (.lst xs))) (h:xs.length <= 1000:=by exact Nat.le_of_ble_eq_true rfl):lstK Q xs H:=⟨le_line h,k⟩
theorem r_call {sp:Sp} {E:XK} {tr:TA} (k:tr σ H fun vs H1 => sp vs H1 Q E):tCall sp [] E tr σ H Q:=by
  show tr σ H fun vs H1 => sp (vs ++ []) H1 Q E
  have e:(fun (vs:List V) H1 => sp (vs ++ []) H1 Q E) = fun vs H1 => sp vs H1 Q E:=by
    funext vs H1
    rw [List.append_nil]
  rw [e]; exact k
theorem r_CB {r} {tr:TA} (k:tr σ H fun vs H1 => r vs H1 Q):tCB r tr σ H Q:=k
theorem r_par {n m:Nat} {ta:TA} (k:ta σ H fun vs H1 => ∃ v w,vs = [v,w] /\ D.nx ((σ.set n (some v)).set m (some w)) H1):tPar n m ta D σ H:=k
theorem r_eqI (k:Q (.bl (decide (i = j))) H):rEq (.int i) (.int j) H Q:=⟨rfl,by rw [dec_int,Bool.beq_eq_decide_eq]; exact k⟩
theorem r_neI (k:Q (.bl (!decide (i = j))) H):rNe (.int i) (.int j) H Q:=⟨rfl,by rw [dec_int,Bool.beq_eq_decide_eq]; exact k⟩
theorem r_neB (k:Q (.bl (!(b == c))) H):rNe (.bl b) (.bl c) H Q:=⟨rfl,by rw [dec_bl]; exact k⟩
theorem r_ixL {p:Addr} {xs:List V} (h:SqL K H p xs) (e:atI xs i = some v) (k:Q v H):rIxL K (.ref p) (.int i) H Q:=⟨p,xs,i,v,rfl,rfl,h,e,k⟩
theorem r_ixT {p:Addr} {xs:List V} (h:SqT K H p xs) (e:atI xs i = some v) (k:Q v H):rIxT K (.ref p) (.int i) H Q:=⟨p,xs,i,v,rfl,rfl,h,e,k⟩
noncomputable def rIxLT (K:PySem.W.Frag):R2:=fun x y H Q => rIxL K x y H Q ∨ rIxT K x y H Q ∨ rIxS x y H Q
theorem ix_LT:IxR X (rIxLT X.K):=ix_seq
theorem r_ixl {p:Addr} {xs:List V} (h:H p = some (.lst xs)) (e:atI xs i = some v) (k:Q v H):rIxLT K (.ref p) (.int i) H Q:=.inl (r_ixL (SqL.of h) e k)
theorem r_ixt {p:Addr} {xs:List V} (h:H p = some (.tup xs)) (e:atI xs i = some v) (k:Q v H):rIxLT K (.ref p) (.int i) H Q:=.inr (.inl (r_ixT (SqT.of h) e k))
theorem i_T {A B:Prop} (h:A):if true = true then A else B:=iteT h
theorem i_F {A B:Prop} (h:B):if false = true then A else B:=iteF h
theorem i_dT {p A B:Prop} [Decidable p] (hp:p) (h:A):if decide p = true then A else B:=by rw [decide_eq_true hp]; exact iteT h
theorem i_dF {p A B:Prop} [Decidable p] (hp:¬ p) (h:B):if decide p = true then A else B:=by rw [decide_eq_false hp]; exact iteF h
theorem i_d {p A B:Prop} [Decidable p] (h1:p -> A) (h2:¬ p -> B):if decide p = true then A else B:=by
  by_cases h:p
  . exact i_dT h (h1 h)
  . exact i_dF h (h2 h)
theorem i_flip {A B:Prop} (h:if b = true then B else A):if (!b) = true then A else B:=by cases b <;> exact h
theorem i_bT {A B:Prop} (hb:b = true) (h:A):if b = true then A else B:=by rw [hb]; exact i_T h
theorem i_bF {A B:Prop} (hb:b = false) (h:B):if b = true then A else B:=by rw [hb]; exact i_F h
end
noncomputable def Kp (p:Addr) (H H':Hp):Prop:=∀ b o,b ≠ p -> H b = some o -> H' b = some o
theorem Kp.trans {p:Addr} {H H1 H2:Hp} (a:Kp p H H1) (b:Kp p H1 H2):Kp p H H2:=fun c o n h => b c o n (a c o n h)
theorem Kp.upd {p:Addr} {H:Hp} {o:HO}:Kp p H (upd H p o):=fun c u n h => by rw [upd_ne n]; exact h
theorem Kp.new {p q:Addr} {H:Hp} {o:HO} (hq:H q = none):Kp p H (L2.upd H q o):=fun c u n h => by rw [upd_ne (ne_of_none h hq)]; exact h
theorem Same.new {q:Addr} {H:Hp} {o:HO} (hq:H q = none):Same H (upd H q o):=fun c u h => by rw [upd_ne (ne_of_none h hq)]; exact h
theorem Same.kp {p:Addr} {H H':Hp} (s:Same H H'):Kp p H H':=fun c o _ h => s c o h
noncomputable def St3 (H:Hp) (p:Addr) (n:Int):Prop:=∃ a b c:Int,H p = some (.lst [.int a,.int b,.int c]) /\ 0 <= a /\ 0 <= b /\ b <= n
structure Df (K:PySem.W.Frag) (mg:Str -> Option Value) (x:Str) (st:Stmt) (ps:List Str):Prop where
  ex:∃ (f:Addr) (fd:FuncData),(∃ (oc:Value) (od:Option Addr) (dV kV doc pm:Value) (an:Option Addr) (cdv ct:Value) (osl:Array (Option Value)),
    fd = PySem.W.fnOf x x (defArgs st) (defBody st) (defScope st) dV kV doc pm an cdv ct /\ K.lookup f = some ⟨oc,od,.func fd,osl⟩ /\ PySem.W.codeIn K cdv x = true) /\ PySem.W.keepIn K (.ref f) = true /\ mg x = some (.ref f) /\ Binds K fd ps []
structure Okf (P:Program) (w:World) (K:PySem.W.Frag) (mg:Str -> Option Value) (base:Heap) (k:Nat) (x:Str) (ps:List Str) (sp:Sp):Prop where
  ex:∃ (f:Addr) (fd:FuncData),mg x = some (.ref f) /\ PySem.W.keepIn K (.ref f) = true /\ Binds K fd ps [] /\ FnOk P w K mg base CX0 k f fd ps sp
theorem Okf.mono {P:Program} {w:World} {K:PySem.W.Frag} {mg:Str -> Option Value} {base:Heap} {j k:Nat} {x:Str} {ps:List Str} {sp:Sp} (o:Okf P w K mg base j x ps sp) (h:j <= k):Okf P w K mg base k x ps sp :=
  let ⟨f,fd,a,b,c,d⟩:=o.ex; ⟨f,fd,a,b,c,d.mono h⟩
theorem Okf.of {P:Program} {w:World} {K:PySem.W.Frag} {mg:Str -> Option Value} {base:Heap} {k:Nat} {x:Str} {st:Stmt} {N ps:List Str} {sp:Sp} (d:Df K mg x st ps) (S:FnScope N ps (defScope st)) (len:∀ vs H Q E,sp vs H Q E -> vs.length = ps.length)
    (hbody:∀ (f:Addr) (cdv:Value) (A:Around) (outer:List Env) (s:Shared) (H:Hp) (vs:List V) (Q:VK) (E:XK),Room k (A.deeper (envOfC x (defScope st) s.heap.objs.size f cdv)) -> sp vs H Q E ->
      ∃ t,PSs (cxOf CX0 P w K mg base N x (defScope st) f cdv A outer s H E).nox (defBody st) t /\ t { nx:=fun _ H' => Q .non H',rt:=Q } (start N vs) H):Okf P w K mg base (k + 1) x ps sp:=by
  obtain ⟨f,fd,⟨oc,od,dV,kV,doc,pm,an,cdv,ct,osl,rfl,lk,hcd⟩,kp,a,b⟩:=d.ex
  refine ⟨f,_,a,kp,b,fn_of lk hcd S len fun A outer s H vs Q E hr hsp => ?_⟩
  obtain ⟨t,h,q⟩:=hbody f cdv A outer s H vs Q E hr hsp
  exact ⟨t,h.nox,q⟩
theorem df_mk {K:PySem.W.Frag} {mg:Str -> Option Value} {h:Heap} {x:Str} {st:Stmt} {ps:List Str} {f:Addr} {oc:Value} {od an:Option Addr} {osl:Array (Option Value)} {dV kV doc pm cdv ct:Value} (X:K.In h) (G:h.Ns mainGlobals mg)
    (a:PySem.W.nsIn K mainGlobals x = some (some (.ref f))) (l:K.lookup f = some ⟨oc,od,.func (PySem.W.fnOf x x (defArgs st) (defBody st) (defScope st) dV kV doc pm an cdv ct),osl⟩)
    (c:PySem.W.codeIn K cdv x = true) (k:PySem.W.keepIn K (.ref f) = true)
    (b:∀ us:List Value,us.length = ps.length -> bindArgs (PySem.W.fnOf x x (defArgs st) (defBody st) (defScope st) dV kV doc pm an cdv ct) ⟨us,[]⟩ = pure (ps.zip us)):Df K mg x st ps :=
  ⟨f,_,⟨oc,od,dV,kV,doc,pm,an,cdv,ct,osl,rfl,l,c⟩,k,PySem.W.mg_of X G a,.all b⟩
structure DfD (K:PySem.W.Frag) (mg:Str -> Option Value) (x:Str) (st:Stmt) (ps:List Str) (dvs:List V):Prop where
  ex:∃ (f:Addr) (fd:FuncData),(∃ (oc:Value) (od:Option Addr) (dV kV doc pm:Value) (an:Option Addr) (cdv ct:Value) (osl:Array (Option Value)),
    fd = PySem.W.fnOf x x (defArgs st) (defBody st) (defScope st) dV kV doc pm an cdv ct /\ K.lookup f = some ⟨oc,od,.func fd,osl⟩ /\ PySem.W.codeIn K cdv x = true) /\ PySem.W.keepIn K (.ref f) = true /\ mg x = some (.ref f) /\ Binds K fd ps [] /\ ∃ ds,Vals dvs ds /\ Binds K fd ps ds
structure OkfD (P:Program) (w:World) (K:PySem.W.Frag) (mg:Str -> Option Value) (base:Heap) (k:Nat) (x:Str) (ps:List Str) (dvs:List V) (sp:Sp):Prop where
  ex:∃ (f:Addr) (fd:FuncData),mg x = some (.ref f) /\ PySem.W.keepIn K (.ref f) = true /\ Binds K fd ps [] /\ (∃ ds,Vals dvs ds /\ Binds K fd ps ds) /\ FnOk P w K mg base CX0 k f fd ps sp
theorem OkfD.mono {P:Program} {w:World} {K:PySem.W.Frag} {mg:Str -> Option Value} {base:Heap} {j k:Nat} {x:Str} {ps:List Str} {dvs:List V} {sp:Sp} (o:OkfD P w K mg base j x ps dvs sp) (h:j <= k):OkfD P w K mg base k x ps dvs sp :=
  let ⟨f,fd,a,b,c,e,d⟩:=o.ex; ⟨f,fd,a,b,c,e,d.mono h⟩
theorem OkfD.f {P:Program} {w:World} {K:PySem.W.Frag} {mg:Str -> Option Value} {base:Heap} {k:Nat} {x:Str} {ps:List Str} {dvs:List V} {sp:Sp} (o:OkfD P w K mg base k x ps dvs sp):Okf P w K mg base k x ps sp :=
  let ⟨f,fd,a,b,c,_,d⟩:=o.ex; ⟨f,fd,a,b,c,d⟩
theorem OkfD.of {P:Program} {w:World} {K:PySem.W.Frag} {mg:Str -> Option Value} {base:Heap} {k:Nat} {x:Str} {st:Stmt} {N ps:List Str} {dvs:List V} {sp:Sp} (d:DfD K mg x st ps dvs) (S:FnScope N ps (defScope st)) (len:∀ vs H Q E,sp vs H Q E -> vs.length = ps.length)
    (hbody:∀ (f:Addr) (cdv:Value) (A:Around) (outer:List Env) (s:Shared) (H:Hp) (vs:List V) (Q:VK) (E:XK),Room k (A.deeper (envOfC x (defScope st) s.heap.objs.size f cdv)) -> sp vs H Q E ->
      ∃ t,PSs (cxOf CX0 P w K mg base N x (defScope st) f cdv A outer s H E).nox (defBody st) t /\ t { nx:=fun _ H' => Q .non H',rt:=Q } (start N vs) H):OkfD P w K mg base (k + 1) x ps dvs sp:=by
  obtain ⟨f,fd,⟨oc,od,dV,kV,doc,pm,an,cdv,ct,osl,rfl,lk,hcd⟩,kp,a,b,b2⟩:=d.ex
  refine ⟨f,_,a,kp,b,b2,fn_of lk hcd S len fun A outer s H vs Q E hr hsp => ?_⟩
  obtain ⟨t,h,q⟩:=hbody f cdv A outer s H vs Q E hr hsp
  exact ⟨t,h.nox,q⟩
theorem dfd_mk {K:PySem.W.Frag} {mg:Str -> Option Value} {h:Heap} {x:Str} {st:Stmt} {ps:List Str} {f T:Addr} {oc:Value} {od an:Option Addr} {osl:Array (Option Value)} {kV doc pm cdv ct:Value} {o:Obj} {items:Array Value} {n:Nat} {dvs:List V} {ds:List Value} (X:K.In h) (G:h.Ns mainGlobals mg)
    (a:PySem.W.nsIn K mainGlobals x = some (some (.ref f))) (l:K.lookup f = some ⟨oc,od,.func (PySem.W.fnOf x x (defArgs st) (defBody st) (defScope st) (.ref T) kV doc pm an cdv ct),osl⟩)
    (c:PySem.W.codeIn K cdv x = true) (k:PySem.W.keepIn K (.ref f) = true) (t:K.lookup T = some o) (ho:o.data = .seq items n)
    (b:∀ (s:Shared) (us:List Value),s.heap.get? T = some o -> us.length = ps.length -> BindsTo s (PySem.W.fnOf x x (defArgs st) (defBody st) (defScope st) (.ref T) kV doc pm an cdv ct) ⟨us,[]⟩ (ps.zip us)) (hv:Vals dvs ds)
    (b2:∀ (s:Shared) (us:List Value),s.heap.get? T = some o -> (us ++ ds).length = ps.length -> BindsTo s (PySem.W.fnOf x x (defArgs st) (defBody st) (defScope st) (.ref T) kV doc pm an cdv ct) ⟨us,[]⟩ (ps.zip (us ++ ds))):DfD K mg x st ps dvs :=
  ⟨f,_,⟨oc,od,.ref T,kV,doc,pm,an,cdv,ct,osl,rfl,l,c⟩,k,PySem.W.mg_of X G a,fun s us KI hl => by rw [List.append_nil] at hl ⊢; exact b s us (KI T o t) hl,ds,hv,fun s us KI hl => b2 s us (KI T o t) hl⟩
section
variable {X:Cx} {k:Nat} {x:Str} {ps:List Str} {dvs:List V} {sp:Sp} {p pos:Pos} {e:Expr} {es:List Expr} {t:TA}
theorem pe_callD (o:OkfD X.prog X.w X.K X.mg X.base k x ps dvs sp) (hr:Room k X.A) (hg:Gl X x) (ha:PA X (e :: es) t) (hdb:(x == ("__debug__":Str)) = false:=by decide)
    (he:starEach (e :: es) X.env = (false,eval e X.env) :: starEach es X.env:=by rfl) (hpl:(backTo pos (starEach es X.env)).any (·.1) = false:=by rfl) :
    PE X (.Call (.Name x p) (e :: es) [] pos) (tCall sp dvs E0 t):=by
  obtain ⟨f,fd,a,b,_,⟨ds,hv,c⟩,d⟩:=o.ex
  exact pe_call d hr hg a b c hv pass0 ha hdb he hpl
theorem r_callD {σ:St} {H:Hp} {Q:VK} {E:XK} {tr:TA} (k:tr σ H fun vs H1 => sp (vs ++ dvs) H1 Q E):tCall sp dvs E tr σ H Q:=k
end
section
variable {X:Cx} {k:Nat} {x:Str} {ps:List Str} {sp:Sp} {p pos:Pos} {e:Expr} {es:List Expr} {t:TA}
theorem pe_callO (o:Okf X.prog X.w X.K X.mg X.base k x ps sp) (hr:Room k X.A) (hg:Gl X x) (ha:PA X (e :: es) t) (hdb:(x == ("__debug__":Str)) = false:=by decide)
    (he:starEach (e :: es) X.env = (false,eval e X.env) :: starEach es X.env:=by rfl) (hpl:(backTo pos (starEach es X.env)).any (·.1) = false:=by rfl) :
    PE X (.Call (.Name x p) (e :: es) [] pos) (tCall sp [] E0 t):=by
  obtain ⟨f,fd,a,b,c,d⟩:=o.ex
  exact pe_call d hr hg a b c .nil pass0 ha hdb he hpl
end
section
variable {σ:St} {H:Hp} {Q:VK} {D:Ends} {v:V} {i j:Int} {K:PySem.W.Frag}
theorem r_ixs {p:Addr} {xs:List V} (h:SqL K H p xs) (e:atI xs i = some v) (k:Q v H):rIxLT K (.ref p) (.int i) H Q:=.inl (r_ixL h e k)
theorem r_mod (h:0 < j) (k:Q (.int (i % j)) H):rI (fun _ j => 0 < j) (fun i j => .int (i % j)) (.int i) (.int j) H Q:=r_I h k
theorem r_mul (h:CMulB i j) (k:Q (.int (i * j)) H):rI CMulB (fun i j => .int (i * j)) (.int i) (.int j) H Q:=r_I h k
theorem CDivB.of (h0:0 < j) (h1:j < 2 ^ 64):CDivB i j:=⟨by omega,Sm.mono (m:=64) (Sm.of (by omega) (by omega)) (by decide)⟩
theorem r_fdiv (h:CDivB i j) (k:Q (.int (i.fdiv j)) H):rI CDivB (fun i j => .int (i.fdiv j)) (.int i) (.int j) H Q:=r_I h k
theorem r_pow9 (k:Q (.int 1000000000) H):rI CPow (fun i j => .int (i ^ j.toNat)) (.int 10) (.int 9) H Q:=r_I ⟨by decide,by decide,by decide⟩ k
theorem r_parK {n m:Nat} {w:V} (k:D.nx ((σ.set n (some v)).set m (some w)) H):∃ v' w',[v,w] = [v',w'] /\ D.nx ((σ.set n (some v')).set m (some w')) H:=⟨v,w,rfl,k⟩
end
theorem bt_int:bootBuiltins "int" = some (.type "int"):=by decide +kernel
theorem bt_bool:bootBuiltins "bool" = some (.type "bool"):=by decide +kernel
theorem bt_dict:bootBuiltins "dict" = some (.type "dict"):=by decide +kernel
theorem bt_set:bootBuiltins "set" = some (.type "set"):=by decide +kernel
theorem bt_enumerate:bootBuiltins "enumerate" = some (.type "enumerate"):=by decide +kernel
theorem bt_len:bootBuiltins "len" = some (.builtin "len"):=by decide +kernel
theorem bt_abs:bootBuiltins "abs" = some (.builtin "abs"):=by decide +kernel
theorem bt_max:bootBuiltins "max" = some (.builtin "max"):=by decide +kernel
theorem bt_min:bootBuiltins "min" = some (.builtin "min"):=by decide +kernel
theorem bt_isinstance:bootBuiltins "isinstance" = some (.builtin "isinstance"):=by decide +kernel
theorem bt_sorted:bootBuiltins "sorted" = some (.builtin "sorted"):=by decide +kernel
structure Bl (mg:Str -> Option Value):Prop where
  z_int:mg "int" = none
  z_bool:mg "bool" = none
  z_str:mg "str" = none
  z_list:mg "list" = none
  z_tuple:mg "tuple" = none
  z_dict:mg "dict" = none
  z_set:mg "set" = none
  z_range:mg "range" = none
  z_enumerate:mg "enumerate" = none
  z_zip:mg "zip" = none
  z_reversed:mg "reversed" = none
  z_len:mg "len" = none
  z_abs:mg "abs" = none
  z_max:mg "max" = none
  z_min:mg "min" = none
  z_isinstance:mg "isinstance" = none
  z_sorted:mg "sorted" = none
  z_all:mg "all" = none
  z_any:mg "any" = none
  z_sum:mg "sum" = none
section
variable {K:PySem.W.Frag} {H:Hp} {Q:VK}
theorem kit_int_bool:PySem.W.kitOne K (.type "int") (.type "bool") = some false:=by first | rfl | with_unfolding_all rfl | decide
theorem kit_int_int:PySem.W.kitOne K (.type "int") (.type "int") = some true:=by first | rfl | with_unfolding_all rfl | decide
theorem r_isTy {T:String} {x:V} {t:Value} {b:Bool} (ty:TyOf K H x t) (e:PySem.W.kitOne K t (.type T) = some b) (k:Q (.bl b) H):rIsTy K T [x,.ty T] H Q:=⟨x,t,b,rfl,ty,e,k⟩
end
section
variable {X:Cx} {K:PySem.W.Frag} {σ:St} {H:Hp} {Q:VK} {D:Ends} {i j:Int} {b:Bool}
noncomputable def rAbs:List V -> Hp -> VK -> Prop:=fun xs H Q => ∃ i,xs = [.int i] /\ Q (.int (if i < 0 then -i else i)) H
theorem c_abs:CallR X (.builtin "abs") rAbs:=call_abs
theorem r_abs (k:Q (.int (if i < 0 then -i else i)) H):rAbs [.int i] H Q:=⟨i,rfl,k⟩
noncomputable def rMax2:List V -> Hp -> VK -> Prop:=fun xs H Q => ∃ i j,xs = [.int i,.int j] /\ Q (.int (if j > i then j else i)) H
theorem c_max (hc:X.calm = true):CallR X (.builtin "max") rMax2:=call_max2 hc
theorem r_max (k:Q (.int (if j > i then j else i)) H):rMax2 [.int i,.int j] H Q:=⟨i,j,rfl,k⟩
noncomputable def rMin2:List V -> Hp -> VK -> Prop:=fun xs H Q => ∃ i j,xs = [.int i,.int j] /\ Q (.int (if j < i then j else i)) H
theorem c_min (hc:X.calm = true):CallR X (.builtin "min") rMin2:=call_min2 hc
theorem r_min (k:Q (.int (if j < i then j else i)) H):rMin2 [.int i,.int j] H Q:=⟨i,j,rfl,k⟩
noncomputable def rLen (K:PySem.W.Frag):List V -> Hp -> VK -> Prop:=fun xs H Q => ∃ x n,xs = [x] /\ LenV K x H n /\ Q (.int n) H
theorem c_len:CallR X (.builtin "len") (rLen X.K):=call_len
theorem r_lenL {p:Addr} {xs:List V} (h:SqL K H p xs) (k:Q (.int xs.length) H):rLen K [.ref p] H Q:=⟨_,_,rfl,.inl ⟨xs,h,rfl⟩,k⟩
theorem r_lenl {p:Addr} {xs:List V} (h:H p = some (.lst xs)) (k:Q (.int xs.length) H):rLen K [.ref p] H Q:=r_lenL (SqL.of h) k
noncomputable def forK (g:TG) (tb:TS) (D:Ends) (σ:St):It -> Hp -> Prop:=fun J H1 => ∃ W:Nat -> Nat -> St -> Hp -> Prop,(∃ m,W 0 m σ H1) /\ ∀ i m σ H,W i m σ H ->
  (J.stop i H /\ D.nx σ H) ∨ (J.go i H /\ ∃ N:St -> Hp -> Prop,(∀ σ' H',N σ' H' -> ∃ m',m' < m /\ W (i + 1) m' σ' H') /\ ∀ x H',J.yld i H x H' -> g x σ H' fun σ2 H2 => tb { D with nx:=N,ct:=N,bk:=D.nx } σ2 H2)
theorem r_for {wi:TI} {g:TG} {tb:TS} (k:wi σ H (forK g tb D σ)):tFor wi g tb D σ H:=k
noncomputable def rng1K (R:It -> Hp -> Prop):List V -> Hp -> Prop:=fun vs H1 => ∃ j:Int,vs = [.int j] /\ -(2 ^ 62) <= j /\ j < 2 ^ 62 /\ R (Itr 0 j.toNat) H1
noncomputable def rng2K (R:It -> Hp -> Prop):List V -> Hp -> Prop:=fun vs H1 => ∃ i j:Int,vs = [.int i,.int j] /\ (-(2 ^ 62) <= i /\ i < 2 ^ 62 /\ -(2 ^ 62) <= j /\ j < 2 ^ 62) /\ R (Itr i (j - i).toNat) H1
theorem r_rng1 {ta:TA} {R:It -> Hp -> Prop} (k:ta σ H (rng1K R)):iRng1 ta σ H R:=k
theorem r_rng2 {ta:TA} {R:It -> Hp -> Prop} (k:ta σ H (rng2K R)):iRng2 ta σ H R:=k
theorem r_rng1K {R:It -> Hp -> Prop} (h1:-(2 ^ 62) <= j) (h2:j < 2 ^ 62) (k:R (Itr 0 j.toNat) H):rng1K R [.int j] H:=⟨j,rfl,h1,h2,k⟩
theorem r_rng2K {R:It -> Hp -> Prop} (h1:-(2 ^ 62) <= i) (h2:i < 2 ^ 62) (h3:-(2 ^ 62) <= j) (h4:j < 2 ^ 62) (k:R (Itr i (j - i).toNat) H):rng2K R [.int i,.int j] H:=⟨i,j,rfl,⟨h1,h2,h3,h4⟩,k⟩
theorem r_forR {lo:Int} {n:Nat} {g:TG} {tb:TS} (Pv:Nat -> St -> Hp -> Prop) (h0:Pv 0 σ H)
    (hs:∀ i σ H,i < n -> Pv i σ H -> g (.int (lo + i)) σ H fun σ2 H2 => tb ⟨Pv (i + 1),D.rt,D.nx,Pv (i + 1)⟩ σ2 H2) (hd:∀ σ H,Pv n σ H -> D.nx σ H):forK g tb D σ (Itr lo n) H:=for_range Pv h0 hs hd
noncomputable def listK (K:PySem.W.Frag) (R:It -> Hp -> Prop):VK:=fun x H1 => ∃ a,x = .ref a /\ (∃ xs,SqL K H1 a xs) /\ R (Itl K a) H1
theorem r_iList {tl:TE} {R:It -> Hp -> Prop} (k:tl σ H (listK K R)):iList K tl σ H R:=k
theorem r_listK {a:Addr} {xs:List V} {R:It -> Hp -> Prop} (h:SqL K H a xs) (k:R (Itl K a) H):listK K R (.ref a) H:=⟨a,rfl,⟨xs,h⟩,k⟩
theorem r_forL {a:Addr} {xs:List V} {g:TG} {tb:TS} (Pv:Nat -> St -> Hp -> Prop) (h0:Pv 0 σ H) (hl:∀ i σ H,i <= xs.length -> Pv i σ H -> SqL K H a xs)
    (hs:∀ i x σ H,xs[i]? = some x -> Pv i σ H -> g x σ H fun σ2 H2 => tb ⟨Pv (i + 1),D.rt,D.nx,Pv (i + 1)⟩ σ2 H2) (hd:∀ σ H,Pv xs.length σ H -> D.nx σ H):forK g tb D σ (Itl K a) H:=for_list Pv h0 hl hs hd
end
end L2
namespace L2
open PySem
noncomputable def sg (t b:Int):Int:=if b < 0 then 0 - (Int.gcd t b:Int) else (Int.gcd t b:Int)
noncomputable def lowT (t b:Int):Int:=t.fdiv (sg t b)
noncomputable def lowB (t b:Int):Int:=b.fdiv (sg t b)
theorem gcd_pos {t b:Int} (h:b ≠ 0):0 < Int.gcd t b:=Nat.pos_of_ne_zero fun e => h (Int.gcd_eq_zero_iff.mp e).2
theorem sg_ne {t b:Int} (h:b ≠ 0):sg t b ≠ 0:=by
  have:=gcd_pos (t:=t) h
  unfold sg
  split <;> omega
theorem sg_dvd_l (t b:Int):sg t b ∣ t:=by
  unfold sg
  split
  . exact (Int.zero_sub _ ▸ Int.neg_dvd.mpr (Int.gcd_dvd_left ..))
  . exact Int.gcd_dvd_left ..
theorem sg_dvd_r (t b:Int):sg t b ∣ b:=by
  unfold sg
  split
  . exact (Int.zero_sub _ ▸ Int.neg_dvd.mpr (Int.gcd_dvd_right ..))
  . exact Int.gcd_dvd_right ..
theorem fdiv_of {a g:Int} (hg:g ≠ 0) (h:g ∣ a):a.fdiv g * g = a:=by
  obtain ⟨c,rfl⟩:=h
  rw [Int.mul_fdiv_cancel_left _ hg,Int.mul_comm]
theorem lowT_mul {t b:Int} (h:b ≠ 0):lowT t b * sg t b = t:=fdiv_of (sg_ne h) (sg_dvd_l t b)
theorem lowB_mul {t b:Int} (h:b ≠ 0):lowB t b * sg t b = b:=fdiv_of (sg_ne h) (sg_dvd_r t b)
theorem sg_natAbs (t b:Int):(sg t b).natAbs = Int.gcd t b:=by
  unfold sg
  split <;> omega
theorem lowB_pos {t b:Int} (h:b ≠ 0):0 < lowB t b:=by
  have e:=lowB_mul (t:=t) h
  have hp:=gcd_pos (t:=t) h
  by_cases hb:b < 0
  . have hs:sg t b < 0:=by unfold sg; rw [if_pos hb]; omega
    rcases Int.lt_or_le 0 (lowB t b) with q | q
    . exact q
    . have:0 <= lowB t b * sg t b:=Int.mul_nonneg_of_nonpos_of_nonpos q (Int.le_of_lt hs)
      omega
  . have hs:0 < sg t b:=by unfold sg; rw [if_neg hb]; omega
    rcases Int.lt_or_le 0 (lowB t b) with q | q
    . exact q
    . have:lowB t b * sg t b <= 0:=Int.mul_nonpos_of_nonpos_of_nonneg q (Int.le_of_lt hs)
      omega
theorem low_cop {t b:Int} (h:b ≠ 0):Int.gcd (lowT t b) (lowB t b) = 1:=by
  have e1:=lowT_mul (t:=t) h
  have e2:=lowB_mul (t:=t) h
  have hp:=gcd_pos (t:=t) h
  have e:Int.gcd (lowT t b * sg t b) (lowB t b * sg t b) = Int.gcd (lowT t b) (lowB t b) * (sg t b).natAbs:=Int.gcd_mul_right ..
  rw [e1,e2,sg_natAbs] at e
  have:1 * Int.gcd t b = Int.gcd (lowT t b) (lowB t b) * Int.gcd t b:=by omega
  exact (Nat.eq_of_mul_eq_mul_right hp this).symm
theorem low_cross {t b:Int} (h:b ≠ 0):t * lowB t b = b * lowT t b:=by
  have e1:=lowT_mul (t:=t) h
  have e2:=lowB_mul (t:=t) h
  calc t * lowB t b = (lowT t b * sg t b) * lowB t b:=by rw [e1]
    _ = (lowB t b * sg t b) * lowT t b:=by rw [Int.mul_assoc,Int.mul_comm (sg t b),← Int.mul_assoc,Int.mul_comm (lowT t b),Int.mul_assoc,Int.mul_comm (lowT t b),← Int.mul_assoc]
    _ = b * lowT t b:=by rw [e2]
theorem natAbs_le_of_mul {a g c:Int} (hg:g ≠ 0) (e:a * g = c):a.natAbs <= c.natAbs:=by
  rw [← e,Int.natAbs_mul]
  exact Nat.le_mul_of_pos_right _ (by omega)
theorem lowT_le {t b:Int} (h:b ≠ 0):(lowT t b).natAbs <= t.natAbs:=natAbs_le_of_mul (sg_ne h) (lowT_mul h)
theorem gcd_step {one other:Int} (h:0 < other):Int.gcd other (one % other) = Int.gcd one other:=by
  have e:one % other = one - (one / other) * other:=by rw [Int.emod_def,Int.mul_comm]
  rw [e,Int.gcd_comm other,Int.gcd_sub_mul_right_left]
theorem gcd_stepN {one other:Int} (h:other ≠ 0):Int.gcd other (one.fmod other) = Int.gcd one other:=by
  have e:one.fmod other = one - (one.fdiv other) * other:=by rw [Int.fmod_def,Int.mul_comm]
  rw [e,Int.gcd_comm other,Int.gcd_sub_mul_right_left]
theorem pick {ns:List Int} {i:Int} (h0:0 <= i) (h1:i < ns.length):∃ z,z ∈ ns /\ atI (ns.map V.int) i = some (.int z):=by
  have hk:i.toNat < ns.length:=by omega
  have ek:i = ((i.toNat:Nat):Int):=by omega
  have q:atI (ns.map V.int) ((i.toNat:Nat):Int) = some (.int ns[i.toNat]):=atI_nat (by rw [List.getElem?_map,List.getElem?_eq_getElem hk] <;> rfl)
  rw [← ek] at q
  exact ⟨ns[i.toNat],List.getElem_mem hk,q⟩
theorem r_modN {i j:Int} {H:Hp} {Q:VK} (h:j ≠ 0) (k:Q (.int (i.fmod j)) H):rI (fun _ j => j ≠ 0) (fun i j => .int (i.fmod j)) (.int i) (.int j) H Q:=r_I h k
theorem fmod_lt {a b:Int} (h:b ≠ 0):(a.fmod b).natAbs < b.natAbs:=by
  have e:=Int.fmod_eq_emod (a:=a) (b:=b)
  have h1:=Int.emod_nonneg a h
  have h2:=Int.emod_lt a h
  rw [e]
  by_cases hc:0 <= b ∨ b ∣ a
  . rw [if_pos hc]
    omega
  . rw [if_neg hc]
    have h3:a % b ≠ 0:=fun z => hc (.inr (Int.dvd_of_emod_eq_zero z))
    omega
theorem low_worth {t b:Int} (h:b ≠ 0):lowT t b * b = t * lowB t b:=by rw [low_cross h,Int.mul_comm]
end L2
namespace L2
open PySem PySem.Spec PyProof.Rows
inductive Dt where
  | non | bl (b:Bool) | int (i:Int) | str (x:Str) | tup (xs:List Dt) | lst (xs:List Dt)
mutual
noncomputable def Den (H:Hp):Dt -> V -> Prop
  | .non,v => v = .non
  | .bl b,v => v = .bl b
  | .int i,v => v = .int i
  | .str x,v => v = .str x
  | .tup ds,v => ∃ p vs,v = .ref p /\ H p = some (.tup vs) /\ DenL H ds vs
  | .lst ds,v => ∃ p vs,v = .ref p /\ H p = some (.lst vs) /\ DenL H ds vs
noncomputable def DenL (H:Hp):List Dt -> List V -> Prop
  | [],vs => vs = []
  | d :: ds,vs => ∃ v r,vs = v :: r /\ Den H d v /\ DenL H ds r
end
mutual
noncomputable def deq:Dt -> Dt -> Bool
  | .non,.non => true
  | .bl a,.bl b => a == b
  | .bl a,.int b => (if a then 1 else 0) == b
  | .int a,.bl b => a == (if b then 1 else 0)
  | .int a,.int b => a == b
  | .str a,.str b => a == b
  | .tup xs,.tup ys => deqL xs ys
  | .lst xs,.lst ys => deqL xs ys
  | _,_ => false
noncomputable def deqL:List Dt -> List Dt -> Bool
  | [],[] => true
  | x :: xs,y :: ys => deq x y && deqL xs ys
  | _,_ => false
end
mutual
noncomputable def dep:Dt -> Nat
  | .tup xs => depL xs + 1
  | .lst xs => depL xs + 1
  | _ => 0
noncomputable def depL:List Dt -> Nat
  | [] => 0
  | x :: xs => max (dep x) (depL xs)
end
theorem DenL.length {H:Hp}:∀ {ds:List Dt} {vs:List V},DenL H ds vs -> ds.length = vs.length
  | [],vs,h => by rw [show vs = [] from h]; rfl
  | d :: ds,vs,h => by
    obtain ⟨v,r,rfl,_,t⟩:=h
    rw [List.length_cons,List.length_cons,DenL.length t]
mutual
theorem Den.same_eq {H:Hp}:∀ (d e:Dt) {x:V},Den H d x -> Den H e x -> deq d e = true
  | .tup ds,.tup es,x,h1,h2 => by
    obtain ⟨p,vs,rfl,a,b⟩:=h1
    obtain ⟨q,ws,e1,c,d⟩:=h2
    cases e1
    rw [a] at c
    cases c
    exact DenL.same_eq ds es b d
  | .lst ds,.lst es,x,h1,h2 => by
    obtain ⟨p,vs,rfl,a,b⟩:=h1
    obtain ⟨q,ws,e1,c,d⟩:=h2
    cases e1
    rw [a] at c
    cases c
    exact DenL.same_eq ds es b d
  | .tup ds,.lst es,x,h1,h2 => by
    obtain ⟨p,vs,rfl,a,b⟩:=h1
    obtain ⟨q,ws,e1,c,d⟩:=h2
    cases e1
    rw [a] at c
    cases c
  | .lst ds,.tup es,x,h1,h2 => by
    obtain ⟨p,vs,rfl,a,b⟩:=h1
    obtain ⟨q,ws,e1,c,d⟩:=h2
    cases e1
    rw [a] at c
    cases c
  | .non,e,x,h1,h2 => by
    have h1:x = .non:=h1
    subst h1
    cases e <;> first | rfl | (have h2:V.non = _:=h2; cases h2) | (obtain ⟨_,_,z,_⟩:=h2; cases z)
  | .bl b,e,x,h1,h2 => by
    have h1:x = .bl b:=h1
    subst h1
    cases e <;> first | (have h2:V.bl b = _:=h2; cases h2; exact beq_self_eq_true b) | (have h2:V.bl b = _:=h2; cases h2; done) | (obtain ⟨_,_,z,_⟩:=h2; cases z)
  | .int b,e,x,h1,h2 => by
    have h1:x = .int b:=h1
    subst h1
    cases e <;> first | (have h2:V.int b = _:=h2; cases h2; exact beq_self_eq_true b) | (have h2:V.int b = _:=h2; cases h2; done) | (obtain ⟨_,_,z,_⟩:=h2; cases z)
  | .str b,e,x,h1,h2 => by
    have h1:x = .str b:=h1
    subst h1
    cases e <;> first | (have h2:V.str b = _:=h2; cases h2; exact beq_self_eq_true b) | (have h2:V.str b = _:=h2; cases h2; done) | (obtain ⟨_,_,z,_⟩:=h2; cases z)
  | .tup ds,.non,x,h1,h2 => by obtain ⟨p,vs,rfl,_⟩:=h1; have h2:V.ref p = _:=h2; cases h2
  | .tup ds,.bl _,x,h1,h2 => by obtain ⟨p,vs,rfl,_⟩:=h1; have h2:V.ref p = _:=h2; cases h2
  | .tup ds,.int _,x,h1,h2 => by obtain ⟨p,vs,rfl,_⟩:=h1; have h2:V.ref p = _:=h2; cases h2
  | .tup ds,.str _,x,h1,h2 => by obtain ⟨p,vs,rfl,_⟩:=h1; have h2:V.ref p = _:=h2; cases h2
  | .lst ds,.non,x,h1,h2 => by obtain ⟨p,vs,rfl,_⟩:=h1; have h2:V.ref p = _:=h2; cases h2
  | .lst ds,.bl _,x,h1,h2 => by obtain ⟨p,vs,rfl,_⟩:=h1; have h2:V.ref p = _:=h2; cases h2
  | .lst ds,.int _,x,h1,h2 => by obtain ⟨p,vs,rfl,_⟩:=h1; have h2:V.ref p = _:=h2; cases h2
  | .lst ds,.str _,x,h1,h2 => by obtain ⟨p,vs,rfl,_⟩:=h1; have h2:V.ref p = _:=h2; cases h2
theorem DenL.same_eq {H:Hp}:∀ (ds es:List Dt) {xs:List V},DenL H ds xs -> DenL H es xs -> deqL ds es = true
  | [],[],xs,_,_ => rfl
  | [],e :: es,xs,h1,h2 => by
    have h1:xs = []:=h1
    subst h1
    obtain ⟨_,_,z,_⟩:=h2
    cases z
  | d :: ds,[],xs,h1,h2 => by
    have h2:xs = []:=h2
    subst h2
    obtain ⟨_,_,z,_⟩:=h1
    cases z
  | d :: ds,e :: es,xs,h1,h2 => by
    obtain ⟨v,r,rfl,a,b⟩:=h1
    obtain ⟨v',r',z,a',b'⟩:=h2
    cases z
    show (deq d e && deqL ds es) = true
    rw [Den.same_eq d e a a',DenL.same_eq ds es b b']
    rfl
end
noncomputable def nth (ds es:List Dt) (j:Nat):Bool:=match ds[j]?,es[j]? with
  | some d,some e => deq d e
  | _,_ => false
theorem deqL_all:∀ (ds es:List Dt),((List.range (min ds.length es.length)).all (nth ds es) && ds.length == es.length) = deqL ds es
  | [],[] => rfl
  | [],e :: es => by show (_ && (0 == es.length + 1)) = false; simp
  | d :: ds,[] => by show (_ && (ds.length + 1 == 0)) = false; simp
  | d :: ds,e :: es => by
    have ih:=deqL_all ds es
    show _ = (deq d e && deqL ds es)
    rw [← ih]
    have h1:min (d :: ds).length (e :: es).length = min ds.length es.length + 1:=by simp only [List.length_cons]; omega
    rw [h1,List.range_succ_eq_map,List.all_cons,List.all_map]
    have h2:(nth (d :: ds) (e :: es)) ∘ Nat.succ = nth ds es:=by funext j; rfl
    rw [h2]
    have h3:nth (d :: ds) (e :: es) 0 = deq d e:=rfl
    rw [h3]
    have h4:((d :: ds).length == (e :: es).length) = (ds.length == es.length):=by simp
    rw [h4,Bool.and_assoc]
section
variable {X:Cx} {pins:List (Addr×Obj)} {σ:St} {H:Hp} {s:Shared}
theorem tup_at (I:Inv X pins σ H s) {p:Addr} {vs:List V} (h:H p = some (.tup vs)):∃ its:List Value,Vals vs its /\ s.heap.IsTuple p its.toArray:=by
  obtain ⟨_,its,r,q⟩:=(show ObjOk X.prog X.w H s.heap p (.tup vs) from I.hok p _ h)
  exact ⟨its,r,q⟩
theorem lst_at (I:Inv X pins σ H s) {p:Addr} {vs:List V} (h:H p = some (.lst vs)):∃ its:List Value,Vals vs its /\ s.heap.IsList p its.toArray:=by
  obtain ⟨_,its,n,r,q⟩:=(show ObjOk X.prog X.w H s.heap p (.lst vs) from I.hok p _ h)
  exact ⟨its,r,_,q,rfl,_,rfl⟩
theorem in1_tup {A:Around} {ds:List Dt} (h:A.units + dep (.tup ds) < cLine):A.in1.units + depL ds < cLine:=by
  have e:dep (.tup ds) = depL ds + 1:=by simp [dep]
  show A.units + 1 + depL ds < cLine
  omega
theorem in1_lst {A:Around} {ds:List Dt} (h:A.units + dep (.lst ds) < cLine):A.in1.units + depL ds < cLine:=by
  have e:dep (.lst ds) = depL ds + 1:=by simp [dep]
  show A.units + 1 + depL ds < cLine
  omega
mutual
theorem eqAt_D (I:Inv X pins σ H s):∀ (d e:Dt) {x y:V} {u v:Value} {A:Around},Den H d x -> Den H e y -> RelV x u -> RelV y v -> A.units + dep d < cLine -> SeqAt.EqAt A s u v (deq d e)
  | .tup ds,e,x,y,u,v,A,h1,h2,rx,ry,hu => by
    obtain ⟨p,vs,rfl,a,b⟩:=h1
    cases rx
    obtain ⟨its,r,t⟩:=tup_at I a
    have hu':A.units < cLine:=by omega
    cases e with
    | tup es =>
      obtain ⟨q,ws,rfl,a',b'⟩:=id h2
      cases ry
      by_cases hne:p = q
      . subst hne
        have:=Den.same_eq (.tup ds) (.tup es) (x:=.ref p) ⟨p,vs,rfl,a,b⟩ h2
        rw [this]
        exact SeqAt.EqAt.same _
      . obtain ⟨its',r',t'⟩:=tup_at I a'
        have z:=SeqAt.RcAt.tuples (e:=nth ds es) t t' hu' (fun j g1 g2 => eqAt_L I ds es b b' r r' (in1_tup hu) j (by simpa using g1) (by simpa using g2))
        have l1:its.length = ds.length:=by rw [b.length,r.length]
        have l2:its'.length = es.length:=by rw [b'.length,r'.length]
        rw [List.size_toArray,List.size_toArray,l1,l2,deqL_all] at z
        exact SeqAt.EqAt.of_refs hne z
    | lst es =>
      obtain ⟨q,ws,rfl,a',b'⟩:=id h2
      cases ry
      obtain ⟨its',r',t'⟩:=lst_at I a'
      exact SeqAt.EqAt.tuple_list t t' hu'
    | non => cases (show y = .non from h2); cases ry; exact SeqAt.EqAt.tuple_none t hu'
    | bl b => cases (show y = .bl b from h2); cases ry; exact SeqAt.EqAt.tuple_bool b t hu'
    | int b => cases (show y = .int b from h2); obtain ⟨tk,rfl⟩:=ry; exact SeqAt.EqAt.tuple_int b tk t hu'
    | str b => cases (show y = .str b from h2); obtain ⟨tk,rfl⟩:=ry; exact SeqAt.EqAt.tuple_str b tk t hu'
  | .lst ds,e,x,y,u,v,A,h1,h2,rx,ry,hu => by
    obtain ⟨p,vs,rfl,a,b⟩:=h1
    cases rx
    obtain ⟨its,r,t⟩:=lst_at I a
    have hu':A.units < cLine:=by omega
    cases e with
    | lst es =>
      obtain ⟨q,ws,rfl,a',b'⟩:=id h2
      cases ry
      by_cases hne:p = q
      . subst hne
        have:=Den.same_eq (.lst ds) (.lst es) (x:=.ref p) ⟨p,vs,rfl,a,b⟩ h2
        rw [this]
        exact SeqAt.EqAt.same _
      . obtain ⟨its',r',t'⟩:=lst_at I a'
        have l1:its.length = ds.length:=by rw [b.length,r.length]
        have l2:its'.length = es.length:=by rw [b'.length,r'.length]
        by_cases hl:ds.length = es.length
        . have z:=SeqAt.RcAt.lists (e:=nth ds es) t t' (by rw [List.size_toArray,List.size_toArray,l1,l2,hl]) hu' (fun j g1 g2 => eqAt_L I ds es b b' r r' (in1_lst hu) j (by simpa using g1) (by simpa using g2))
          have e1:=deqL_all ds es
          rw [hl,Nat.min_self,beq_self_eq_true,Bool.and_true] at e1
          rw [List.size_toArray,l1,hl,e1] at z
          exact SeqAt.EqAt.of_refs hne z
        . have z:=SeqAt.RcAt.lists_lengths t t' (by rw [List.size_toArray,List.size_toArray,l1,l2]; simpa using hl) hu'
          have e1:=deqL_all ds es
          rw [show (ds.length == es.length) = false from by simpa using hl,Bool.and_false] at e1
          have e2:deq (.lst ds) (.lst es) = false:=by show deqL ds es = false; exact e1.symm
          rw [e2]
          exact SeqAt.EqAt.of_refs hne z
    | tup es =>
      obtain ⟨q,ws,rfl,a',b'⟩:=id h2
      cases ry
      obtain ⟨its',r',t'⟩:=tup_at I a'
      exact SeqAt.EqAt.list_tuple t t' hu'
    | non => cases (show y = .non from h2); cases ry; exact SeqAt.EqAt.list_none t hu'
    | bl b => cases (show y = .bl b from h2); cases ry; exact SeqAt.EqAt.list_bool b t hu'
    | int b => cases (show y = .int b from h2); obtain ⟨tk,rfl⟩:=ry; exact SeqAt.EqAt.list_int b tk t hu'
    | str b => cases (show y = .str b from h2); obtain ⟨tk,rfl⟩:=ry; exact SeqAt.EqAt.list_str b tk t hu'
  | .non,e,x,y,u,v,A,h1,h2,rx,ry,hu => by
    cases (show x = .non from h1); cases rx
    have hu':A.units < cLine:=by omega
    cases e with
    | tup es => obtain ⟨q,ws,rfl,a',b'⟩:=id h2; cases ry; obtain ⟨its',r',t'⟩:=tup_at I a'; exact SeqAt.EqAt.none_tuple t' hu'
    | lst es => obtain ⟨q,ws,rfl,a',b'⟩:=id h2; cases ry; obtain ⟨its',r',t'⟩:=lst_at I a'; exact SeqAt.EqAt.none_list t' hu'
    | non => cases (show y = .non from h2); cases ry; exact SeqAt.EqAt.same _
    | bl b => cases (show y = .bl b from h2); cases ry; exact SeqAt.EqAt.none_bool b
    | int b => cases (show y = .int b from h2); obtain ⟨tk,rfl⟩:=ry; exact SeqAt.EqAt.none_int b tk
    | str b => cases (show y = .str b from h2); obtain ⟨tk,rfl⟩:=ry; exact SeqAt.EqAt.none_str b tk
  | .bl c,e,x,y,u,v,A,h1,h2,rx,ry,hu => by
    cases (show x = .bl c from h1); cases rx
    have hu':A.units < cLine:=by omega
    cases e with
    | tup es => obtain ⟨q,ws,rfl,a',b'⟩:=id h2; cases ry; obtain ⟨its',r',t'⟩:=tup_at I a'; exact SeqAt.EqAt.bool_tuple c t' hu'
    | lst es => obtain ⟨q,ws,rfl,a',b'⟩:=id h2; cases ry; obtain ⟨its',r',t'⟩:=lst_at I a'; exact SeqAt.EqAt.bool_list c t' hu'
    | non => cases (show y = .non from h2); cases ry; exact SeqAt.EqAt.bool_none c
    | bl b => cases (show y = .bl b from h2); cases ry; exact SeqAt.EqAt.bool_bool c b
    | int b => cases (show y = .int b from h2); obtain ⟨tk,rfl⟩:=ry; exact SeqAt.EqAt.bool_int c b tk
    | str b => cases (show y = .str b from h2); obtain ⟨tk,rfl⟩:=ry; exact SeqAt.EqAt.bool_str c b tk
  | .int c,e,x,y,u,v,A,h1,h2,rx,ry,hu => by
    cases (show x = .int c from h1); obtain ⟨tc,rfl⟩:=rx
    have hu':A.units < cLine:=by omega
    cases e with
    | tup es => obtain ⟨q,ws,rfl,a',b'⟩:=id h2; cases ry; obtain ⟨its',r',t'⟩:=tup_at I a'; exact SeqAt.EqAt.int_tuple c tc t' hu'
    | lst es => obtain ⟨q,ws,rfl,a',b'⟩:=id h2; cases ry; obtain ⟨its',r',t'⟩:=lst_at I a'; exact SeqAt.EqAt.int_list c tc t' hu'
    | non => cases (show y = .non from h2); cases ry; exact SeqAt.EqAt.int_none c tc
    | bl b => cases (show y = .bl b from h2); cases ry; exact SeqAt.EqAt.int_bool c tc b
    | int b => cases (show y = .int b from h2); obtain ⟨tk,rfl⟩:=ry; exact SeqAt.EqAt.int_int c tc b tk
    | str b => cases (show y = .str b from h2); obtain ⟨tk,rfl⟩:=ry; exact SeqAt.EqAt.int_str c tc b tk
  | .str c,e,x,y,u,v,A,h1,h2,rx,ry,hu => by
    cases (show x = .str c from h1); obtain ⟨tc,rfl⟩:=rx
    have hu':A.units < cLine:=by omega
    cases e with
    | tup es => obtain ⟨q,ws,rfl,a',b'⟩:=id h2; cases ry; obtain ⟨its',r',t'⟩:=tup_at I a'; exact SeqAt.EqAt.str_tuple c tc t' hu'
    | lst es => obtain ⟨q,ws,rfl,a',b'⟩:=id h2; cases ry; obtain ⟨its',r',t'⟩:=lst_at I a'; exact SeqAt.EqAt.str_list c tc t' hu'
    | non => cases (show y = .non from h2); cases ry; exact SeqAt.EqAt.str_none c tc
    | bl b => cases (show y = .bl b from h2); cases ry; exact SeqAt.EqAt.str_bool c tc b
    | int b => cases (show y = .int b from h2); obtain ⟨tk,rfl⟩:=ry; exact SeqAt.EqAt.str_int c tc b tk
    | str b => cases (show y = .str b from h2); obtain ⟨tk,rfl⟩:=ry; exact SeqAt.EqAt.str_str c tc b tk
theorem eqAt_L (I:Inv X pins σ H s):∀ (ds es:List Dt) {xs ys:List V} {us vs:List Value} {A:Around},DenL H ds xs -> DenL H es ys -> Vals xs us -> Vals ys vs -> A.units + depL ds < cLine ->
    ∀ (j:Nat) (g1:j < us.length) (g2:j < vs.length),SeqAt.EqAt A s us[j] vs[j] (nth ds es j)
  | [],es,xs,ys,us,vs,A,h1,h2,r1,r2,hu => fun j g1 g2 => by
    have h1:xs = []:=h1
    subst h1
    cases r1
    exact absurd g1 (Nat.not_lt_zero _)
  | d :: ds,[],xs,ys,us,vs,A,h1,h2,r1,r2,hu => fun j g1 g2 => by
    have h2:ys = []:=h2
    subst h2
    cases r2
    exact absurd g2 (Nat.not_lt_zero _)
  | d :: ds,e :: es,xs,ys,us,vs,A,h1,h2,r1,r2,hu => fun j g1 g2 => by
    obtain ⟨x,xr,rfl,a,b⟩:=h1
    obtain ⟨y,yr,rfl,a',b'⟩:=h2
    cases r1 with
    | cons rx r1 =>
      cases r2 with
      | cons ry r2 =>
        have hd:depL (d :: ds) = max (dep d) (depL ds):=by simp [depL]
        cases j with
        | zero => exact eqAt_D I d e a a' rx ry (by omega)
        | succ j => exact eqAt_L I ds es b b' r1 r2 (by omega) j (by simpa using g1) (by simpa using g2)
end
noncomputable def rEqD:R2:=fun x y H Q => ∃ d e,Den H d x /\ Den H e y /\ dep d <= 60 /\ ((∃ ds es,d = .tup ds /\ e = .tup es) ∨ ∃ ds es,d = .lst ds /\ e = .lst es) /\ Q (.bl (deq d e)) H
noncomputable def rNeD:R2:=fun x y H Q => ∃ d e,Den H d x /\ Den H e y /\ dep d <= 60 /\ ((∃ ds es,d = .tup ds /\ e = .tup es) ∨ ∃ ds es,d = .lst ds /\ e = .lst es) /\ Q (.bl (!deq d e)) H
theorem op_eqD (hu:X.A.units + 64 < cLine):OpR X (compareOp .Eq) rEqD:=by
  intro pins s σ H x y v u Q I rx ry h
  obtain ⟨d,e,h1,h2,hd,k,q⟩:=h
  rcases k with ⟨ds,es,rfl,rfl⟩ | ⟨ds,es,rfl,rfl⟩
  . obtain ⟨p,vs,rfl,a,b⟩:=h1
    obtain ⟨p',ws,rfl,a',b'⟩:=h2
    cases rx
    cases ry
    obtain ⟨its,r,t⟩:=tup_at I a
    obtain ⟨its',r',t'⟩:=tup_at I a'
    have z:=SeqAt.RcAt.tuples (A:=X.A) (e:=nth ds es) t t' (by omega) (fun j g1 g2 => eqAt_L I ds es b b' r r' (in1_tup (by omega)) j (by simpa using g1) (by simpa using g2))
    have l1:its.length = ds.length:=by rw [b.length,r.length]
    have l2:its'.length = es.length:=by rw [b'.length,r'.length]
    rw [List.size_toArray,List.size_toArray,l1,l2,deqL_all] at z
    exact z _ _ _ _ ⟨.bl _,H,I,rfl,q⟩
  . obtain ⟨p,vs,rfl,a,b⟩:=h1
    obtain ⟨p',ws,rfl,a',b'⟩:=h2
    cases rx
    cases ry
    obtain ⟨its,r,t⟩:=lst_at I a
    obtain ⟨its',r',t'⟩:=lst_at I a'
    have l1:its.length = ds.length:=by rw [b.length,r.length]
    have l2:its'.length = es.length:=by rw [b'.length,r'.length]
    by_cases hl:ds.length = es.length
    . have z:=SeqAt.RcAt.lists (A:=X.A) (e:=nth ds es) t t' (by rw [List.size_toArray,List.size_toArray,l1,l2,hl]) (by omega) (fun j g1 g2 => eqAt_L I ds es b b' r r' (in1_lst (by omega)) j (by simpa using g1) (by simpa using g2))
      have e1:=deqL_all ds es
      rw [hl,Nat.min_self,beq_self_eq_true,Bool.and_true] at e1
      rw [List.size_toArray,l1,hl,e1] at z
      exact z _ _ _ _ ⟨.bl _,H,I,rfl,q⟩
    . have z:=SeqAt.RcAt.lists_lengths (A:=X.A) t t' (by rw [List.size_toArray,List.size_toArray,l1,l2]; simpa using hl) (by omega)
      have e1:=deqL_all ds es
      rw [show (ds.length == es.length) = false from by simpa using hl,Bool.and_false] at e1
      have e2:deq (.lst ds) (.lst es) = false:=by show deqL ds es = false; exact e1.symm
      rw [e2] at q
      exact z _ _ _ _ ⟨.bl _,H,I,rfl,q⟩
theorem op_neD (hu:X.A.units + 64 < cLine):OpR X (compareOp .NotEq) rNeD:=by
  intro pins s σ H x y v u Q I rx ry h
  obtain ⟨d,e,h1,h2,hd,k,q⟩:=h
  rcases k with ⟨ds,es,rfl,rfl⟩ | ⟨ds,es,rfl,rfl⟩
  . obtain ⟨p,vs,rfl,a,b⟩:=h1
    obtain ⟨p',ws,rfl,a',b'⟩:=h2
    cases rx
    cases ry
    obtain ⟨its,r,t⟩:=tup_at I a
    obtain ⟨its',r',t'⟩:=tup_at I a'
    have z:=SeqAt.RcNeAt.tuples (A:=X.A) (e:=nth ds es) t t' (by omega) (fun j g1 g2 => eqAt_L I ds es b b' r r' (in1_tup (by omega)) j (by simpa using g1) (by simpa using g2))
    have l1:its.length = ds.length:=by rw [b.length,r.length]
    have l2:its'.length = es.length:=by rw [b'.length,r'.length]
    rw [List.size_toArray,List.size_toArray,l1,l2,deqL_all] at z
    exact z _ _ _ _ ⟨.bl _,H,I,rfl,q⟩
  . obtain ⟨p,vs,rfl,a,b⟩:=h1
    obtain ⟨p',ws,rfl,a',b'⟩:=h2
    cases rx
    cases ry
    obtain ⟨its,r,t⟩:=lst_at I a
    obtain ⟨its',r',t'⟩:=lst_at I a'
    have l1:its.length = ds.length:=by rw [b.length,r.length]
    have l2:its'.length = es.length:=by rw [b'.length,r'.length]
    by_cases hl:ds.length = es.length
    . have z:=SeqAt.RcNeAt.lists (A:=X.A) (e:=nth ds es) t t' (by rw [List.size_toArray,List.size_toArray,l1,l2,hl]) (by omega) (fun j g1 g2 => eqAt_L I ds es b b' r r' (in1_lst (by omega)) j (by simpa using g1) (by simpa using g2))
      have e1:=deqL_all ds es
      rw [hl,Nat.min_self,beq_self_eq_true,Bool.and_true] at e1
      rw [List.size_toArray,l1,hl,e1] at z
      exact z _ _ _ _ ⟨.bl _,H,I,rfl,q⟩
    . have z:=SeqAt.RcNeAt.lists_lengths (A:=X.A) t t' (by rw [List.size_toArray,List.size_toArray,l1,l2]; simpa using hl) (by omega)
      have e1:=deqL_all ds es
      rw [show (ds.length == es.length) = false from by simpa using hl,Bool.and_false] at e1
      have e2:deq (.lst ds) (.lst es) = false:=by show deqL ds es = false; exact e1.symm
      rw [e2] at q
      exact z _ _ _ _ ⟨.bl _,H,I,rfl,q⟩
noncomputable def rEqA:R2:=fun x y H Q => rEq x y H Q ∨ rEqD x y H Q
noncomputable def rNeA:R2:=fun x y H Q => rNe x y H Q ∨ rNeD x y H Q
theorem op_eqA (hu:X.A.units + 64 < cLine):OpR X (compareOp .Eq) rEqA:=op_eq.or (op_eqD hu)
theorem op_neA (hu:X.A.units + 64 < cLine):OpR X (compareOp .NotEq) rNeA:=op_ne.or (op_neD hu)
end
section
variable {H:Hp} {Q:VK} {i j:Int} {b c:Bool} {x y:Str} {u v:V}
theorem e_int (k:Q (.bl (decide (i = j))) H):rEqA (.int i) (.int j) H Q:=.inl (r_eqI k)
theorem n_int (k:Q (.bl (!decide (i = j))) H):rNeA (.int i) (.int j) H Q:=.inl (r_neI k)
theorem n_bl (k:Q (.bl (!(b == c))) H):rNeA (.bl b) (.bl c) H Q:=.inl (r_neB k)
theorem e_str (k:Q (.bl (x == y)) H):rEqA (.str x) (.str y) H Q:=.inl ⟨rfl,by rw [dec_str]; exact k⟩
theorem n_str (k:Q (.bl (!(x == y))) H):rNeA (.str x) (.str y) H Q:=.inl ⟨rfl,by rw [dec_str]; exact k⟩
theorem e_tup {ds es:List Dt} (h1:Den H (.tup ds) u) (h2:Den H (.tup es) v) (hd:depL ds <= 50) (k:Q (.bl (deqL ds es)) H):rEqA u v H Q :=
  .inr ⟨_,_,h1,h2,by simp [dep]; omega,.inl ⟨_,_,rfl,rfl⟩,k⟩
theorem n_tup {ds es:List Dt} (h1:Den H (.tup ds) u) (h2:Den H (.tup es) v) (hd:depL ds <= 50) (k:Q (.bl (!deqL ds es)) H):rNeA u v H Q :=
  .inr ⟨_,_,h1,h2,by simp [dep]; omega,.inl ⟨_,_,rfl,rfl⟩,k⟩
theorem e_lst {ds es:List Dt} (h1:Den H (.lst ds) u) (h2:Den H (.lst es) v) (hd:depL ds <= 50) (k:Q (.bl (deqL ds es)) H):rEqA u v H Q :=
  .inr ⟨_,_,h1,h2,by simp [dep]; omega,.inr ⟨_,_,rfl,rfl⟩,k⟩
theorem den2 {p:Addr} {a b:Int} (h:H p = some (.tup [.int a,.int b])):Den H (.tup [.int a,.int b]) (.ref p):=⟨p,_,rfl,h,_,_,rfl,rfl,_,_,rfl,rfl,rfl⟩
theorem deq2 (a b c d:Int):deqL [.int a,.int b] [.int c,.int d] = decide (a = c /\ b = d):=by
  show ((a == c) && ((b == d) && true)) = _
  rw [Bool.and_true,Bool.decide_and,Bool.beq_eq_decide_eq,Bool.beq_eq_decide_eq]
theorem e_2 {p q:Addr} {a b c d:Int} (h1:H p = some (.tup [.int a,.int b])) (h2:H q = some (.tup [.int c,.int d])) (k:Q (.bl (decide (a = c /\ b = d))) H):rEqA (.ref p) (.ref q) H Q :=
  e_tup (den2 h1) (den2 h2) (by simp [depL,dep]) (by rw [deq2]; exact k)
theorem n_2 {p q:Addr} {a b c d:Int} (h1:H p = some (.tup [.int a,.int b])) (h2:H q = some (.tup [.int c,.int d])) (k:Q (.bl (!decide (a = c /\ b = d))) H):rNeA (.ref p) (.ref q) H Q :=
  n_tup (den2 h1) (den2 h2) (by simp [depL,dep]) (by rw [deq2]; exact k)
end
end L2
namespace L2
open PySem PySem.Spec PyProof.Rows
section
variable {X:Cx} {K:PySem.W.Frag} {H H':Hp} {Q:VK} {i j:Int} {σ:St}
noncomputable def rAddS:R2:=fun x y H Q => ∃ i j,x = .str i /\ y = .str j /\ i.length + j.length <= sizeLine /\ Q (.str (i ++ j)) H
theorem op_addS:OpR X (binaryOp .Add) rAddS:=op_add_str
noncomputable def rAddA (K:PySem.W.Frag):R2:=fun x y H Q => rI0 (fun i j => .int (i + j)) x y H Q ∨ rCat x y H Q ∨ rCatT K x y H Q ∨ rAddS x y H Q
theorem op_addA:OpR X (binaryOp .Add) (rAddA X.K):=op_add.or (op_cat.or (op_catT.or op_addS))
theorem a_int (k:Q (.int (i + j)) H):rAddA K (.int i) (.int j) H Q:=.inl (r_I0 k)
theorem a_lst {p q:Addr} {xs ys:List V} (h1:H p = some (.lst xs)) (h2:H q = some (.lst ys)) (hl:xs.length + ys.length <= 1000) (k:∀ l,H l = none -> Q (.ref l) (upd H l (.lst (xs ++ ys)))):rAddA K (.ref p) (.ref q) H Q :=
  .inr (.inl ⟨p,q,xs,ys,rfl,rfl,h1,h2,le_line hl,k⟩)
noncomputable def partK (R:Option Int -> Hp -> Prop):VK:=fun x H1 => ∃ i,x = .int i /\ R (some i) H1
theorem r_part {t:TE} {R:Option Int -> Hp -> Prop} (k:t σ H (partK R)):tPart t σ H R:=k
theorem r_partK {R:Option Int -> Hp -> Prop} (k:R (some i) H):partK R (.int i) H:=⟨i,rfl,k⟩
theorem r_nopart {R:Option Int -> Hp -> Prop} (k:R none H):tNoPart σ H R:=k
theorem r_sl {r:V -> Option Int -> Option Int -> Hp -> VK -> Prop} {te:TE} {tl th:TO} (k:te σ H fun x H1 => tl σ H1 fun l H2 => th σ H2 fun u H3 => r x l u H3 Q):tSl r te tl th σ H Q:=k
theorem upd_old {H:Hp} {q b:Addr} {o u:HO} (hq:H q = none) (h:H b = some u):upd H q o b = some u:=by rw [upd_ne (ne_of_none h hq)]; exact h
theorem pickV {xs:List V} {i:Int} (h0:0 <= i) (h1:i < xs.length):∃ z,z ∈ xs /\ atI xs i = some z:=by
  have hk:i.toNat < xs.length:=by omega
  have ek:i = ((i.toNat:Nat):Int):=by omega
  have q:atI xs ((i.toNat:Nat):Int) = some xs[i.toNat]:=atI_nat (List.getElem?_eq_getElem hk)
  rw [← ek] at q
  exact ⟨xs[i.toNat],List.getElem_mem hk,q⟩
end
end L2
namespace L2
open PySem PySem.Spec PyProof.Rows
noncomputable def cxComp (X:Cx) (scope:Scope) (cl:List (Str×Addr)) (N:List Str) (C:Addr) (s0:Shared) (H0:Hp) (ex:List Addr):Cx :=
  { X with N:=N,s₀:=s0,H₀:=H0,env:=compEnvC scope cl C X.env,outer:=X.stack,stack:=X.stack,ex:=ex,fn:=fun _ => false,pn:=[],xe:=fun _ _ => False }
noncomputable def capsOf (env:Env) (names:List Str):List (Str×Addr):=names.filterMap fun n => (env.cells.lookup n).map fun c => (n,c)
theorem capsOf_sub {env:Env}:∀ {names:List Str} {x:Str} {c:Addr},(capsOf env names).lookup x = some c -> env.cells.lookup x = some c
  | [],x,c,h => by simp [capsOf] at h
  | n :: r,x,c,h => by
    unfold capsOf at h
    rw [List.filterMap_cons] at h
    cases e:env.cells.lookup n with
    | none =>
      rw [e] at h
      exact capsOf_sub (names:=r) h
    | some d =>
      rw [e] at h
      have h':List.lookup x ((n,d) :: capsOf env r) = some c:=h
      rw [List.lookup_cons] at h'
      by_cases hx:x = n
      . subst hx
        rw [beq_self_eq_true] at h'
        cases h'
        exact e
      . rw [beq_eq_false_iff_ne.mpr hx] at h'
        exact capsOf_sub (names:=r) h'
theorem capsOf_has {env:Env}:∀ {names:List Str} {x:Str} {c:Addr},x ∈ names -> env.cells.lookup x = some c -> (capsOf env names).lookup x = some c
  | [],x,c,h,_ => by cases h
  | n :: r,x,c,h,e => by
    unfold capsOf
    rw [List.filterMap_cons]
    by_cases hx:x = n
    . subst hx
      rw [e]
      show List.lookup x ((x,c) :: _) = some c
      rw [List.lookup_cons,beq_self_eq_true]
    . have hr:x ∈ r:=(List.mem_cons.mp h).resolve_left hx
      have ih:=capsOf_has (env:=env) hr e
      cases e2:env.cells.lookup n with
      | none => exact ih
      | some d =>
        show List.lookup x ((n,d) :: capsOf env r) = some c
        rw [List.lookup_cons,beq_eq_false_iff_ne.mpr hx]
        exact ih
noncomputable def capV (σ:St) (is:List Nat):St:=is.map fun i => (σ[i]?).join
noncomputable def compK (te:TE) (tc:Option TT) (g:TG) (ts:St) (caps:St) (Q:VK):It -> Hp -> Prop:=fun J H1 => ∀ acc,H1 acc = none ->
  ∃ W:Nat -> Nat -> List V -> Hp -> Prop,(∃ m,W 0 m [] (upd H1 acc (.lst []))) /\ ∀ i m ys H,W i m ys H ->
    H acc = some (.lst ys) /\ ((J.stop i H /\ Q (.ref acc) H) ∨ (ys.length < sizeLine /\ J.go i H /\ ∀ (us:St) x H',us.length = ts.length -> J.yld i H x H' -> g x (us ++ caps) H' fun σ2 H2 =>
      (∃ us2,us2.length = ts.length /\ σ2 = us2 ++ caps) /\
      let made:=te σ2
      let next:=fun y H3 => H3 acc = some (.lst ys) /\ ∃ m',m' < m /\ W (i + 1) m' (ys ++ [y]) (upd H3 acc (.lst (ys ++ [y])))
      match tc with
      | none => made H2 next
      | some c => c σ2 H2 fun b H3 => if b = true then made H3 next else ∃ m',m' < m /\ W (i + 1) m' ys H3))
noncomputable def tComp (wi:TI) (te:TE) (tc:Option TT) (g:TG) (k:Nat) (is:List Nat):TE:=fun σ H Q => wi σ H (compK te tc g (List.replicate k none) (capV σ is) Q)
section
variable {X:Cx} {scope:Scope} {N tn names:List Str} {is:List Nat} {elt iter tg:Expr} {ifs:List Expr} {pos:Pos} {wi:TI} {te:TE} {tc:Option TT} {g:TG}
structure CompOk (X:Cx) (scope:Scope) (tn names:List Str) (is:List Nat):Prop where
  cls:(∀ x ∈ names,∃ c,X.env.cells.lookup x = some c) -> closureFor scope X.env = pure (capsOf X.env names)
  nocell:∀ y ∈ scope.names,y.2 ≠ .cell
  kind:scope.kind = .function
  nms:∀ y ∈ scope.names,y.2 = .local -> scope.names.lookup y.1 = some .local
  slots:∀ (j i:Nat) (x:Str),is[j]? = some i -> names[j]? = some x -> X.N[i]? = some x
  len:is.length = names.length
  outk:∀ x ∈ names,X.env.kindOf x = some .cell ∨ X.env.kindOf x = some .free
  ink:∀ x ∈ names,(relabel scope X.env).names.lookup x = some .cell ∨ (relabel scope X.env).names.lookup x = some .free
  free:∀ x,((relabel scope X.env).names.lookup x = some .cell ∨ (relabel scope X.env).names.lookup x = some .free) -> x ∈ names
theorem closure_go {env:Env}:∀ (l:List (Str×NameKind)) (acc:List (Str×Addr)),(∀ x ∈ (l.filter fun y => y.2 == .free).map (·.1),∃ c,env.cells.lookup x = some c) ->
    (forIn l acc fun (x:Str×NameKind) (cs:List (Str×Addr)) => (if (x.2 == .free) = true then (do let a ← cellOf env x.1; pure (ForInStep.yield ((x.1,a) :: cs))) else pure (ForInStep.yield cs)):Sem (List (Str×Addr)))
      = pure ((((l.filter fun y => y.2 == .free).map (·.1)).reverse.filterMap fun n => (env.cells.lookup n).map fun c => (n,c)) ++ acc)
  | [],acc,_ => rfl
  | (n,k) :: r,acc,h => by
    rw [List.forIn_cons]
    by_cases hk:(k == NameKind.free) = true
    . have hf:((n,k) :: r).filter (fun y => y.2 == .free) = (n,k) :: r.filter fun y => y.2 == .free:=by rw [List.filter_cons]; exact if_pos hk
      rw [hf] at h ⊢
      obtain ⟨c,e⟩:=h n (by simp)
      have e1:cellOf env n = pure c:=by unfold cellOf; rw [e]
      show (((if (k == NameKind.free) = true then (do let a ← cellOf env n; pure (ForInStep.yield ((n,a) :: acc))) else pure (ForInStep.yield acc)):Sem _) >>= _) = _
      rw [if_pos hk,e1]
      have ih:=closure_go r ((n,c) :: acc) fun x hx => h x (by simp at hx ⊢; exact .inr hx)
      have e2:(((n,k) :: r.filter fun y => y.2 == .free).map (·.1)).reverse.filterMap (fun n => (env.cells.lookup n).map fun c => (n,c)) = ((r.filter fun y => y.2 == .free).map (·.1)).reverse.filterMap (fun n => (env.cells.lookup n).map fun c => (n,c)) ++ [(n,c)]:=by
        rw [List.map_cons,List.reverse_cons,List.filterMap_append,List.filterMap_cons,e]
        rfl
      rw [e2,List.append_assoc]
      exact ih
    . have hf:((n,k) :: r).filter (fun y => y.2 == .free) = r.filter fun y => y.2 == .free:=by rw [List.filter_cons]; exact if_neg hk
      rw [hf] at h ⊢
      show (((if (k == NameKind.free) = true then (do let a ← cellOf env n; pure (ForInStep.yield ((n,a) :: acc))) else pure (ForInStep.yield acc)):Sem _) >>= _) = _
      rw [if_neg hk]
      exact closure_go r acc h
theorem closureFor_caps {scope:Scope} {env:Env} {names:List Str} (hn:((scope.names.filter fun y => y.2 == .free).map (·.1)).reverse = names) (h:∀ x ∈ names,∃ c,env.cells.lookup x = some c) :
    closureFor scope env = pure (capsOf env names):=by
  unfold closureFor capsOf
  have q:=closure_go (env:=env) scope.names [] fun x hx => h x (by rw [← hn]; exact List.mem_reverse.mpr hx)
  rw [hn,List.append_nil] at q
  show (_ >>= fun r => pure r) = _
  have q2:(forIn scope.names ([]:List (Str×Addr)) fun (x:Str×NameKind) (cs:List (Str×Addr)) => match x with
      | (name,kind) => (if (kind == .free) = true then (do let a ← cellOf env name; pure (ForInStep.yield ((name,a) :: cs))) else pure (ForInStep.yield cs)):Sem (List (Str×Addr))) = pure (names.filterMap fun n => (env.cells.lookup n).map fun c => (n,c)):=q
  first
    | exact (congrArg (fun z => z >>= fun r => pure r) q2)
    | simpa using q2
noncomputable def relab (scope sc:Scope):Scope:={ scope with names:=scope.names.map fun (n,k) => if (k == .free && sc.kind == .function && sc.names.lookup n == some .cell) then (n,.cell) else (n,k) }
theorem comp_ck {X:Cx} {scope sc:Scope} {N tn names:List Str} {is:List Nat} (hsc:X.env.scope = sc) (hN:X.N = N) (h1:((scope.names.filter fun y => y.2 == .free).map (·.1)).reverse = names) (h2:∀ y ∈ scope.names,y.2 ≠ .cell) (h3:scope.kind = .function)
    (h4:∀ y ∈ scope.names,y.2 = .local -> scope.names.lookup y.1 = some .local) (h5:(is.map fun i => N[i]?) = names.map some) (h6:∀ x ∈ names,sc.names.lookup x = some .cell ∨ sc.names.lookup x = some .free)
    (h7:∀ x ∈ names,(relab scope sc).names.lookup x = some .cell ∨ (relab scope sc).names.lookup x = some .free) (h8:∀ y ∈ (relab scope sc).names,(y.2 = .cell ∨ y.2 = .free) -> y.1 ∈ names):CompOk X scope tn names is:=by
  subst hsc hN
  have hr:relabel scope X.env = relab scope X.env.scope:=rfl
  refine ⟨closureFor_caps h1,h2,h3,h4,fun j i x e1 e2 => ?_,?_,h6,?_,fun x hx => ?_⟩
  . have q:=congrArg (fun l => l[j]?) h5
    simp only [List.getElem?_map,e1,e2,Option.map_some] at q
    exact Option.some.inj q
  . have q:=congrArg List.length h5
    simpa using q
  . rw [hr]; exact h7
  . rw [hr] at hx
    have mem:∀ {l:List (Str×NameKind)} {k:NameKind},l.lookup x = some k -> (x,k) ∈ l:=fun {l} {k} => by
      induction l with
      | nil => intro e; cases e
      | cons y r ih =>
        intro e
        obtain ⟨n,k'⟩:=y
        rw [List.lookup_cons] at e
        by_cases hx:x = n
        . subst hx
          rw [beq_self_eq_true] at e
          cases e
          exact List.mem_cons_self
        . rw [beq_eq_false_iff_ne.mpr hx] at e
          exact List.mem_cons_of_mem _ (ih e)
    rcases hx with hx | hx
    . exact h8 _ (mem hx) (.inl rfl)
    . exact h8 _ (mem hx) (.inr rfl)
theorem comp_ok {X:Cx} {scope:Scope} {tn names:List Str} {is:List Nat} (C:CompOk X scope tn names is) {pins:List (Addr×Obj)} {σ:St} {H:Hp} {s:Shared} (I:Inv X pins σ H s) {acc:Addr} {fp:List Addr}
    {s3:Shared} {h1:Heap} {t4:Nat} (I3:Inv X pins σ (upd H acc (.lst [])) s3) (hf:∀ b ∈ fp,FpOk X pins H b) (hfl:∀ b ∈ fp,b < s3.heap.objs.size) (hacc:∀ b ∈ fp,b ≠ acc)
    (ns:h1.Ns s3.heap.objs.size fun _ => none) (kp:∀ b o,s3.heap.get? b = some o -> h1.get? b = some o) :
    Inv (cxComp X scope (capsOf X.env names) (tn ++ names) s3.heap.objs.size s3 (upd H acc (.lst [])) fp) [] (List.replicate tn.length none ++ capV σ is) (upd H acc (.lst [])) { s3 with heap:=h1,toks:=t4 }:=by
  have ok:=I3.ok
  have hC:∀ x c,(capsOf X.env names).lookup x = some c -> X.env.cells.lookup x = some c:=fun x c h => capsOf_sub h
  have cellLt:∀ x c,X.env.cells.lookup x = some c -> c < s3.heap.objs.size:=fun x c e => let ⟨v,z⟩:=I3.cell x c e; z.lt
  refine ⟨⟨ok.mod,?_,ok.glob,ok.blt,Nat.le_refl _,fun x y c a b => ok.inj x y c (hC _ _ a) (hC _ _ b),fun x hx => ?_,fun _ _ z => absurd z (by simp [cxComp]),ok.hd,ok.frames,.inl rfl,fun b hb => ?_,fun b o e => I3.bs b o e,Nat.le_trans ok.bsz I3.sz,fun b o e hb => ?_,fun b hb z => ?_,I3.stack,fun b hb => I3.stkFree b hb⟩,
    rfl,I3.bare,Un.kept kp,⟨_,ns,fun i x v e1 e2 e3 => ?_⟩,fun x c e => ?_,?_,fun x c e => I3.freeC x c (hC _ _ e),fun p hp => absurd hp (by simp [cxComp]),I3.hok.kept kp,?_⟩
  . show (relabel scope X.env).kind = .function
    exact C.kind
  . have hm:=C.free x hx
    obtain ⟨c,e⟩:=ok.has x (C.outk x hm)
    exact ⟨c,capsOf_has hm e⟩
  . refine ⟨Nat.ne_of_lt (hfl b hb),fun x c e => (hf b hb).2.2.2.2.1 x c (hC _ _ e)⟩
  . rcases (hf b hb).2.2.2.1 with z | z
    . exact ok.noex b o e z
    . have:=Nat.lt_of_lt_of_le (Heap.lt_size e) ok.bsz
      omega
  . have:=I3.stkSub b z
    rcases List.mem_cons.mp this with q | q
    . exact (hf b hb).2.1 q
    . exact (hf b hb).2.2.1 q
  . by_cases hi:i < tn.length
    . rw [List.getElem?_append_left (by rw [List.length_replicate]; exact hi),List.getElem?_replicate] at e2
      rw [if_pos hi] at e2
      cases e2
    . have e1:(tn ++ names)[i]? = some x:=e1
      rw [List.getElem?_append_right (by omega)] at e1
      rw [List.getElem?_append_right (by rw [List.length_replicate]; omega),List.length_replicate] at e2
      generalize hj:i - tn.length = j at e1 e2
      unfold capV at e2
      rw [List.getElem?_map] at e2
      cases e4:is[j]? with
      | none => rw [e4] at e2; cases e2
      | some i0 =>
        rw [e4] at e2
        have e5:(σ[i0]?).join = some v:=Option.some.inj e2
        have e6:σ[i0]? = some (some v):=by
          cases q:σ[i0]? with
          | none => rw [q] at e5; cases e5
          | some o => rw [q] at e5; exact congrArg some e5
        have hx:x ∈ names:=List.mem_of_getElem? e1
        obtain ⟨m,hm,look⟩:=I3.loc
        have hv:Vis X.env.scope x:=by
          rcases C.outk x hx with q | q
          . exact .inr (.inl q)
          . exact .inr (.inr q)
        obtain ⟨u,ru,lk⟩:=look i0 x v (C.slots j i0 x e4 e1) e6 hv
        refine ⟨u,ru,.inr ⟨C.ink x hx,?_⟩⟩
        rcases lk with ⟨q,_⟩ | ⟨_,c,ec,z⟩
        . rcases C.outk x hx with q' | q' <;> (rw [q] at q'; cases q')
        . exact ⟨c,capsOf_has hx ec,let ⟨o,a,b⟩:=z; ⟨o,kp _ _ a,b⟩⟩
  . obtain ⟨v,o,a,b⟩:=I3.cell x c (hC _ _ e)
    exact ⟨v,o,kp _ _ a,b⟩
  . exact I3.hok.fresh (Nat.le_refl _)
  . show (List.replicate tn.length none ++ capV σ is).length = (tn ++ names).length
    rw [List.length_append,List.length_append,List.length_replicate]
    unfold capV
    rw [List.length_map,C.len]
theorem compLoop_any {prog:Program} {w:World} {A:Around} {R:Result -> Shared -> Prop} {s:Shared} {elt target iter:Expr} {ifs:List Expr} {scope:Scope} {pos:Pos} {it acc:Value} {env:Env} (I:Nat -> Shared -> Prop)
    (turn:∀ n s,I n s -> wpAny (model prog w) A (pyNext it) (fun r s₁ => match r with
      | none => R (.ok .next) s₁
      | some v => wpAny (model prog w) A (letOwnedTupleGo target it v) (fun _ s₁' => wpAny (model prog w) A (assign target env v) (fun _ s₂ =>
          wpAny (model prog w) A (forIn ifs true fun c r => if r = true then do let ok ← isTrue c env (eval c env); pure (ForInStep.yield ok) else pure (ForInStep.yield r)) (fun ok s₃ =>
            if ok = true then wpAny (model prog w) A (eval elt env) (fun x s₄ =>
              wpAny (model prog w) A (call (.builtin "list.append") [acc,x]) (fun _ s₅ => ∃ m,m < n /\ I m s₅) (fun _ _ => False) s₄) (fun _ _ => False) s₃
            else ∃ m,m < n /\ I m s₃) (fun _ _ => False) s₂) (fun _ _ => False) s₁') (fun _ _ => False) s₁) (fun _ _ => False) s)
    (n:Nat) (h:I n s) :
    codeAny (model prog w) A (.compLoop (.ListComp elt [⟨target,iter,ifs,0⟩] scope pos) 0 it acc env) R s:=by
  refine codeAny_loop rfl I (fun n s hI => ?_) n h
  show wpAny _ A ((compTurn (.ListComp elt [⟨target,iter,ifs,0⟩] scope pos) 0 it acc env).onRaise (fun x => do noteFrame x env; theTreesLotGoes x)) _ _ s
  refine wpAny_noted ?_
  rw [compTurn_list]
  refine wpAny_bind (wpAny_standAt (wpAny_bind (wpAny_mono (turn n s hI) (fun r s₁ h₁ => ?_) fun _ _ h' => h'.elim)))
  cases r with
  | none => exact wpAny_pure h₁
  | some v =>
    refine wpAny_bind (wpAny_mono h₁ (fun _ s₁' h₁' => ?_) fun _ _ h' => h'.elim)
    refine wpAny_bind (wpAny_mono h₁' (fun _ s₂ h₂ => wpAny_bind (wpAny_mono h₂ (fun ok s₃ h₃ => ?_) fun _ _ h' => h'.elim)) fun _ _ h' => h'.elim)
    cases ok with
    | false => exact wpAny_pure ⟨rfl,h₃⟩
    | true =>
      exact wpAny_bind (wpAny_bind (wpAny_mono h₃ (fun x s₄ h₄ => wpAny_bind (wpAny_mono h₄ (fun _ s₅ h₅ => wpAny_pure (wpAny_pure ⟨rfl,h₅⟩)) fun _ _ h' => h'.elim)) fun _ _ h' => h'.elim))
noncomputable def PTs (X':Cx) (ifs:List Expr) (tc:Option TT):Prop:=match ifs,tc with
  | [],none => True
  | [c],some t => PT X' c t
  | _,_ => False
theorem pts_none {X':Cx}:PTs X' [] none:=trivial
theorem pts_one {X':Cx} {c:Expr} {t:TT} (h:PT X' c t):PTs X' [c] (some t):=h
structure TurnG (ok:Cx -> Prop) (P:Program) (w:World) (K:PySem.W.Frag) (tg:Expr) (J:It) (fp:List Addr) (it:Addr) (tn:Nat -> Heap -> Prop):Prop where
  mem:it ∈ fp
  obj:∀ i h,tn i h -> ∀ b ∈ fp,∃ o,h.get? b = some o /\ ∀ v,o.data ≠ .cell v
  keep:∀ i h h',tn i h -> (∀ b ∈ fp,∀ o,h.get? b = some o -> h'.get? b = some o) -> tn i h'
  item:∀ (X:Cx),X.prog = P -> X.w = w -> X.K = K -> ok X -> ∀ (i:Nat) (pins:List (Addr×Obj)) (s:Shared) (σ:St) (H:Hp) (E:Value -> Shared -> Prop),Inv X pins σ H s -> (∀ b ∈ fp,FpOk X pins H b) -> tn i s.heap -> J.go i H ->
    wpAny (model P w) X.A (pyNext (.ref it)) (fun r s1 => ∃ u,r = some u /\ wpAny (model P w) X.A (letOwnedTupleGo tg (.ref it) u) (fun _ s2 => ∃ x H',Inv X pins σ H' s2 /\ RelV x u /\ J.yld i H x H' /\ tn (i + 1) s2.heap /\ ∀ b ∈ fp,H' b = none) E s1) E s
  done:∀ (X:Cx),X.prog = P -> X.w = w -> X.K = K -> ok X -> ∀ (i:Nat) (pins:List (Addr×Obj)) (s:Shared) (σ:St) (H:Hp) (E:Value -> Shared -> Prop),Inv X pins σ H s -> (∀ b ∈ fp,FpOk X pins H b) -> tn i s.heap -> J.stop i H ->
    wpAny (model P w) X.A (pyNext (.ref it)) (fun r s1 => r = none /\ Inv X pins σ H s1) E s
  self:∀ (A:Around) (i:Nat) (s:Shared) (Q:Value -> Shared -> Prop) (E:Value -> Shared -> Prop),tn i s.heap -> Q (.ref it) s -> wpAny (model P w) A (pyIter (.ref it)) Q E s
noncomputable def PIEG (ok:Cx -> Prop) (X:Cx) (pins:List (Addr×Obj)) (σ:St) (tg:Expr) (R:It -> Hp -> Prop) (itv:Value) (s2:Shared):Prop :=
  ∃ (it:Addr) (fp:List Addr) (tn:Nat -> Heap -> Prop) (J:It) (H':Hp),itv = .ref it /\ Inv X pins σ H' s2 /\ TurnG ok X.prog X.w X.K tg J fp it tn /\ tn 0 s2.heap /\ (∀ b ∈ fp,FpOk X pins H' b) /\ R J H'
theorem pie_g {X:Cx} {pins:List (Addr×Obj)} {σ:St} {tg:Expr} {R:It -> Hp -> Prop} {itv:Value} {s2:Shared} (h:PIE X pins σ tg R itv s2):PIEG (fun X => X.calm = true) X pins σ tg R itv s2 :=
  let ⟨it,fp,tn,J,H',a,b,T,c,d,e⟩:=h; ⟨it,fp,tn,J,H',a,b,⟨T.mem,T.obj,T.keep,T.item,T.done,T.self⟩,c,d,e⟩
theorem comp_run {X:Cx} {ok:Cx -> Prop} {scope:Scope} {tn names:List Str} {is:List Nat} (ck:CompOk X scope tn names is) (hc:∀ C s0 H0 ex,ok (cxComp X scope (capsOf X.env names) (tn ++ names) C s0 H0 ex)) {elt tg iter:Expr} {ifs:List Expr} {pos:Pos} {te:TE} {tc:Option TT} {g:TG}
    (hg:∀ C s0 H0 ex,PG (cxComp X scope (capsOf X.env names) (tn ++ names) C s0 H0 ex) tg g) (he:∀ C s0 H0 ex,PE (cxComp X scope (capsOf X.env names) (tn ++ names) C s0 H0 ex) elt te)
    (ht:∀ C s0 H0 ex,PTs (cxComp X scope (capsOf X.env names) (tn ++ names) C s0 H0 ex) ifs tc)
    {pins:List (Addr×Obj)} {σ:St} {Q:VK} {s2:Shared} {itv:Value} {E:Value -> Shared -> Prop} (h2:PIEG ok X pins σ tg (compK te tc g (List.replicate tn.length none) (capV σ is) Q) itv s2) {RR:Value -> Addr -> Result -> Shared -> Prop}
    (fin:∀ (acc C:Addr) (H':Hp) (s':Shared) (m:Str -> Option Value),Inv X pins σ H' s' -> s'.heap.Ns C m -> H' C = none -> C ≠ X.env.locals -> (∀ x c,X.env.cells.lookup x = some c -> c ≠ C) -> (∀ p ∈ X.pn ++ pins,p.1 ≠ C) -> X.s₀.heap.objs.size <= C -> Q (.ref acc) H' ->
      RR (.ref acc) C (.ok .next) s') :
    wpAny (model X.prog X.w) X.A (newList []) (fun acc s₃ => wpAny (model X.prog X.w) X.A (newFunctionEnv scope X.env.globals (capsOf X.env names) [] X.env.qual none .none (some X.env)) (fun cenv s₄ =>
      codeAny (model X.prog X.w) X.A (.compStart (.ListComp elt [⟨tg,iter,ifs,0⟩] scope pos) 0 itv acc { cenv with scope:=relabel scope X.env }) (RR acc cenv.locals) s₄) E s₃) E s2:=by
  obtain ⟨it,fp,tnx,J,H2,rfl,I2,T,st2,f2,hK⟩:=h2
  have facc:H2 s2.heap.objs.size = none:=I2.hok.fresh (Nat.le_refl _)
  refine wpAny_newObj_type ?_ (by show 0 <= sizeLine; decide)
  have fpl:∀ b ∈ fp,b < s2.heap.objs.size:=fun b hb => let ⟨o,e,_⟩:=T.obj 0 _ st2 b hb; Heap.lt_size e
  generalize hs3:({ s2 with heap:=s2.heap.push { cls:=.type "list",data:=.seq ([]:List Value).toArray } }:Shared) = s3
  have hsz3:s3.heap.objs.size = s2.heap.objs.size + 1:=by rw [← hs3]; exact Heap.size_push ..
  have keep23:∀ b o,s2.heap.get? b = some o -> s3.heap.get? b = some o:=fun b o e => by rw [← hs3]; exact Heap.get?_push_of_some _ e
  have I3:Inv X pins σ (upd H2 s2.heap.objs.size (.lst [])) s3:=by
    rw [← hs3]
    exact I2.laid (t':=s2.toks) (fun b u e => Heap.get?_push_of_some _ e) (Nat.le_refl _) ⟨Nat.zero_le _,[],0,.nil,Heap.get?_push_size _ rfl⟩
  refine wpAny_newFunctionEnv ck.nocell (by intro y hy; simp at hy) (fun h1 ns sb => ?_) ck.kind
  have kp:∀ b o,s3.heap.get? b = some o -> h1.get? b = some o:=fun b o e => sb.extBut b o (Nat.ne_of_lt (Heap.lt_size e)) (Heap.get?_push_of_some _ e)
  have lt3:∀ b:Addr,b < s2.heap.objs.size -> b < s3.heap.objs.size:=fun b hb => Nat.lt_of_lt_of_le hb (by rw [hsz3]; exact Nat.le_succ _)
  have ns':h1.Ns s3.heap.objs.size fun _ => none:=ns
  have I4:=comp_ok (t4:=s3.toks + ([]:List (Str×Value)).length) ck I2 I3 f2 (fun b hb => lt3 b (fpl b hb)) (fun b hb => Nat.ne_of_lt (fpl b hb)) ns' kp
  generalize hX':cxComp X scope (capsOf X.env names) (tn ++ names) s3.heap.objs.size s3 (upd H2 s2.heap.objs.size (.lst [])) fp = X' at I4
  have hA:X'.A = X.A:=by rw [← hX']; rfl
  have hP:X'.prog = X.prog:=by rw [← hX']; rfl
  have hW:X'.w = X.w:=by rw [← hX']; rfl
  have hKK:X'.K = X.K:=by rw [← hX']; rfl
  have hcm:ok X':=by rw [← hX']; exact hc _ _ _ _
  have hfs:X'.fs = frs X.stack:=by rw [← hX']; rfl
  have hex:X'.ex = fp:=by rw [← hX']; rfl
  have hloc:X'.env.locals = s3.heap.objs.size:=by rw [← hX']; rfl
  have hs0:X'.s₀ = s3:=by rw [← hX']; rfl
  have hH0:X'.H₀ = upd H2 s2.heap.objs.size (.lst []):=by rw [← hX']; rfl
  have hxe:X'.xe = fun _ _ => False:=by rw [← hX']; rfl
  have henv:X'.env = compEnvC scope (capsOf X.env names) s3.heap.objs.size X.env:=by rw [← hX']; rfl
  have hg':PG X' tg g:=by rw [← hX']; exact hg _ _ _ _
  have he':PE X' elt te:=by rw [← hX']; exact he _ _ _ _
  have ht':PTs X' ifs tc:=by rw [← hX']; exact ht _ _ _ _
  have cells':∀ x c,X'.env.cells.lookup x = some c -> X.env.cells.lookup x = some c:=fun x c e => by rw [henv] at e; exact capsOf_sub e
  obtain ⟨W,⟨m0,w0⟩,turn⟩:=hK _ facc
  have stat:∀ {H':Hp},(∀ b ∈ fp,H' b = none) -> ∀ b ∈ fp,FpOk X' [] H' b:=fun {H'} hn b hb => by
    refine ⟨hn b hb,?_,?_,.inl (by rw [hex]; exact hb),fun x c e => (f2 b hb).2.2.2.2.1 x c (cells' x c e),fun p hp => ?_⟩
    . rw [hloc]; exact Nat.ne_of_lt (lt3 b (fpl b hb))
    . rw [hfs]
      intro z
      rcases List.mem_cons.mp (I2.stkSub b z) with q | q
      . exact (f2 b hb).2.1 q
      . exact (f2 b hb).2.2.1 q
    . rw [← hX'] at hp
      exact absurd hp (by simp [cxComp])
  have loop:∀ s4:Shared,Inv X' [] (List.replicate tn.length none ++ capV σ is) (upd H2 s2.heap.objs.size (.lst [])) s4 -> tnx 0 s4.heap ->
      codeAny (model X.prog X.w) X.A (.compLoop (.ListComp elt [⟨tg,iter,ifs,0⟩] scope pos) 0 (.ref it) (.ref s2.heap.objs.size) X'.env) (RR (.ref s2.heap.objs.size) s3.heap.objs.size) s4:=by
    intro s4 J4 st4
    refine compLoop_any (fun n s' => ∃ i ys ts H',Inv X' [] (ts ++ capV σ is) H' s' /\ ts.length = tn.length /\ tnx i s'.heap /\ (∀ b ∈ fp,H' b = none) /\ W i n ys H') ?_ m0
      ⟨0,[],_,_,J4,List.length_replicate ..,st4,fun b hb => by rw [upd_ne (Nat.ne_of_lt (fpl b hb))]; exact (f2 b hb).1,w0⟩
    rintro n s5 ⟨i,ys,ts,H5,I5,hts,st5,fr5,w5⟩
    obtain ⟨hacc5,hcase⟩:=turn i n ys H5 w5
    have hrun:∀ {α:Type} {m:Sem α} {Q':α -> Shared -> Prop} {s':Shared},wpAny (model X'.prog X'.w) X'.A m Q' (fun _ _ => False) s' -> wpAny (model X.prog X.w) X.A m Q' (fun _ _ => False) s':=fun {α m Q' s'} z => by
      rw [hP,hW,hA] at z; exact z
    rcases hcase with ⟨stop,qn⟩ | ⟨hlen,go,step⟩
    . have z:=T.done X' hP hW hKK hcm i [] s5 _ H5 (fun _ _ => False) I5 (stat fr5) st5 stop
      rw [hA] at z
      refine thn z fun r s6 ⟨hr,I6⟩ => ?_
      subst hr
      -- the frame around,behind the block
      have u23:Un (frs X.stack) fp H2 (upd H2 s2.heap.objs.size (.lst [])) s2.heap s3.heap:=Un.laid keep23 (Nat.le_refl _) facc
      have u36:Un (frs X.stack) fp (upd H2 s2.heap.objs.size (.lst [])) H5 s3.heap s6.heap:=by
        have b:=I6.base
        rw [hfs,hex,hs0,hH0] at b
        exact b
      have hos:s6.os = s2.os:=by
        have b:=I6.os
        rw [hs0,← hs3] at b
        exact b
      have IO:Inv X pins σ H5 s6:=I2.call' hos (u23.trans u36) (by have b:=I6.hok; rw [hP,hW] at b; exact b) I6.bare fun b hb => by
        obtain ⟨_,f1,f2',f3,f4,f5⟩:=f2 b hb
        exact ⟨f3,f1,fun x c e => f4 x c e,fun p hp => f5 p hp⟩
      obtain ⟨m,hm,_⟩:=I6.loc
      rw [hloc] at hm
      have fC:H5 s3.heap.objs.size = none:=by have b:=I6.free; rw [hloc] at b; exact b
      refine fin _ _ H5 s6 m IO hm fC ?_ (fun x c e => ?_) (fun p hp => ?_) ?_ qn
      . exact Nat.ne_of_gt (Nat.lt_of_lt_of_le I2.lt (by omega))
      . obtain ⟨v,z⟩:=I2.cell x c e
        exact Nat.ne_of_lt (lt3 c z.lt)
      . exact Nat.ne_of_lt (lt3 p.1 (Heap.lt_size (I2.pin p hp).1))
      . exact Nat.le_trans I2.sz (by omega)
    . have z:=T.item X' hP hW hKK hcm i [] s5 _ H5 (fun _ _ => False) I5 (stat fr5) st5 go
      rw [hA] at z
      refine thn z fun r s6 ⟨u,hr,h6⟩ => ?_
      subst hr
      refine thn h6 fun _ s7 ⟨x,H7,I7,r7,y7,st7,fr7⟩ => ?_
      have I7':=I7.pinned (stat fr7) (T.obj _ _ st7)
      have zg:=hg' _ s7 _ H7 x u _ I7' r7 (step ts x H7 (by rw [hts,List.length_replicate]) y7)
      rw [hxe] at zg
      refine thn (hrun zg) fun _ s8 ⟨σ8,H8,I8,⟨us2,hus,e8⟩,q8⟩ => ?_
      subst e8
      rw [List.length_replicate] at hus
      have back:∀ {s9:Shared} {H9:Hp},Inv X' ([] ++ pinsAt fp s7.heap) (us2 ++ capV σ is) H9 s9 -> tnx (i + 1) s9.heap /\ ∀ b ∈ fp,H9 b = none:=fun {s9 H9} I9 => by
        refine ⟨T.keep _ _ _ st7 fun b hb o e => (I9.pin (b,o) (List.mem_append_right _ (List.mem_append_right _ (mem_pinsAt hb e)))).1,fun b hb => ?_⟩
        obtain ⟨o,e,d⟩:=T.obj _ _ st7 b hb
        exact (I9.pin (b,o) (List.mem_append_right _ (List.mem_append_right _ (mem_pinsAt hb e)))).2.1
      have made:∀ {s9:Shared} {H9:Hp},Inv X' ([] ++ pinsAt fp s7.heap) (us2 ++ capV σ is) H9 s9 -> te (us2 ++ capV σ is) H9 (fun y H3 => H3 s2.heap.objs.size = some (.lst ys) /\ ∃ m',m' < n /\ W (i + 1) m' (ys ++ [y]) (upd H3 s2.heap.objs.size (.lst (ys ++ [y])))) ->
          wpAny (model X.prog X.w) X.A (eval elt X'.env) (fun x s₄ => wpAny (model X.prog X.w) X.A (call (.builtin "list.append") [.ref s2.heap.objs.size,x]) (fun _ s₅ => ∃ m,m < n /\ ∃ i ys ts H',Inv X' [] (ts ++ capV σ is) H' s₅ /\ ts.length = tn.length /\ tnx i s₅.heap /\ (∀ b ∈ fp,H' b = none) /\ W i m ys H') (fun _ _ => False) s₄) (fun _ _ => False) s9:=fun {s9 H9} I9 q9 => by
        have ze:=he' _ s9 _ H9 _ I9 q9
        rw [hxe] at ze
        refine thn (hrun ze) fun y s10 ⟨yv,H10,I10,ry,ha10,m',hm',w10⟩ => ?_
        have za:=(mt_append (X:=X')) ([] ++ pinsAt fp s7.heap) s10 (us2 ++ capV σ is) H10 (.ref s2.heap.objs.size) [yv] (.ref s2.heap.objs.size) [y] (fun v H' => v = .non /\ H' = upd H10 s2.heap.objs.size (.lst (ys ++ [yv]))) I10 rfl (.cons ry .nil)
          ⟨_,ys,yv,rfl,rfl,ha10,hlen,rfl,rfl⟩
        rw [hxe] at za
        refine thn (hrun za) fun _ s11 ⟨_,H11,I11,_,_,e11⟩ => ?_
        subst e11
        obtain ⟨b1,b2⟩:=back I11
        exact ⟨m',hm',i + 1,_,us2,_,I11.unpinned,hus,b1,b2,w10⟩
      cases ifs with
      | nil =>
        cases tc with
        | some t => exact ht'.elim
        | none => exact wpAny_tests_nil (by rw [if_pos rfl]; exact made I8 q8)
      | cons c0 rest =>
        cases rest with
        | cons _ _ => cases tc <;> exact ht'.elim
        | nil =>
          cases tc with
          | none => exact ht'.elim
          | some t =>
            have zt:=(show PT X' c0 t from ht') _ s8 _ H8 _ I8 q8
            rw [hxe] at zt
            refine wpAny_tests_one (thn (hrun zt) fun ok s9 ⟨H9,I9,q9⟩ => ?_)
            cases ok with
            | true => rw [if_pos rfl]; rw [if_pos rfl] at q9; exact made I9 q9
            | false =>
              rw [if_neg Bool.false_ne_true]
              rw [if_neg Bool.false_ne_true] at q9
              obtain ⟨m',hm',w9⟩:=q9
              obtain ⟨b1,b2⟩:=back I9
              exact ⟨m',hm',i + 1,_,us2,_,I9.unpinned,hus,b1,b2,w9⟩
  have st4:tnx 0 h1:=T.keep _ _ _ st2 fun b hb o e => kp b o (keep23 b o e)
  have goal0:=loop _ I4 st4
  rw [henv] at goal0
  refine codeAny_compStart_list goal0 (T.self X.A 0 _ _ _ st4 goal0)
theorem pe_comp (ck:CompOk X scope tn names is) (hc:X.calm = true) (hi:PI X tg iter wi)
    (hg:∀ C s0 H0 ex,PG (cxComp X scope (capsOf X.env names) (tn ++ names) C s0 H0 ex) tg g) (he:∀ C s0 H0 ex,PE (cxComp X scope (capsOf X.env names) (tn ++ names) C s0 H0 ex) elt te)
    (ht:∀ C s0 H0 ex,PTs (cxComp X scope (capsOf X.env names) (tn ++ names) C s0 H0 ex) ifs tc) (hs:∀ x,foldedSetIterable iter X.env x = pure x:=by intro _; rfl) :
    PE X (.ListComp elt [⟨tg,iter,ifs,0⟩] scope pos) (tComp wi te tc g tn.length is):=by
  intro pins s σ H Q I h
  rw [eval_ListComp]
  refine wpAny_comprehension_free (use:=none) rfl hs (ck.cls fun x hx => I.ok.has x (ck.outk x hx)) ck.kind ck.nms (thn (hi pins s σ H _ I h) fun v s1 h1 => thn h1 fun itv s2 h2 => ?_)
  refine comp_run (RR:=fun acc C => compPost (model X.prog X.w) X.A X.xe none (EP X pins σ Q) acc C) (ok:=fun X => X.calm = true) ck (fun _ _ _ _ => hc) hg he ht (pie_g h2) fun acc C H' s' m I' hn hC hL hcl hpn hsz q => ?_
  refine ⟨m,hn,fun h' sb => ⟨.ref acc,H',?_,rfl,q⟩⟩
  exact I'.turned (t':=s'.toks) (fun b o hb e => sb.extBut b o hb e) hC hL (.inr hsz) hcl hpn
theorem ps_setC {i:Nat} {x:Str} {pos' spos:Pos} (hN:X.N.Nodup) (hi':X.N[i]? = some x) (hx:Loc X.env.scope x) (ck:CompOk X scope tn names is) (hc:X.calm = true) (hi:PI X tg iter wi)
    (hg:∀ C s0 H0 ex,PG (cxComp X scope (capsOf X.env names) (tn ++ names) C s0 H0 ex) tg g) (he:∀ C s0 H0 ex,PE (cxComp X scope (capsOf X.env names) (tn ++ names) C s0 H0 ex) elt te)
    (ht:∀ C s0 H0 ex,PTs (cxComp X scope (capsOf X.env names) (tn ++ names) C s0 H0 ex) ifs tc) (hs:∀ x,foldedSetIterable iter X.env x = pure x:=by intro _; rfl)
    (hsw:swapsWith (.ListComp elt [⟨tg,iter,ifs,0⟩] scope pos) (some (.Name x pos')) spos.line X.env = pure true:=by rfl) (hf:X.fn x = true ∨ X.env.scope.names.lookup x = some .local:=by first | exact .inl rfl | exact .inr rfl | assumption) :
    PS X (.Assign [.Name x pos'] (.ListComp elt [⟨tg,iter,ifs,0⟩] scope pos) spos) (tAsg (tComp wi te tc g tn.length is) (gName i)):=by
  intro pins s σ H D I h
  rw [exec_Assign_Name_used _ _ _ _ hsw]
  refine wpAny_bind (wpAny_standAt (wpAny_bind ?_))
  show wpAny _ X.A (do let _ ← comprehension (.ListComp elt [⟨tg,iter,ifs,0⟩] scope pos) scope X.env _ (newList []) false (eval iter X.env) (some (assign (.Name x pos') X.env))) _ _ s
  refine wpAny_bind (wpAny_mono (wpAny_comprehension_free (use:=some (assign (.Name x pos') X.env)) (Q:=fun _ s' => SP X pins D .next s') rfl hs (ck.cls fun x hx => I.ok.has x (ck.outk x hx)) ck.kind ck.nms
    (thn (hi pins s σ H _ I h) fun v s1 h1 => thn h1 fun itv s2 h2 => ?_)) (fun _ s' hq => wpAny_pure (wpAny_pure hq)) fun _ _ e => e)
  refine comp_run (RR:=fun acc C => compPost (model X.prog X.w) X.A X.xe (some (assign (.Name x pos') X.env)) (fun _ s' => SP X pins D .next s') acc C) (ok:=fun X => X.calm = true) ck (fun _ _ _ _ => hc) hg he ht (pie_g h2) fun acc C H' s' m I' hn hC hL hcl hpn hsz q => ?_
  show wpAny _ X.A (assign (.Name x pos') X.env (.ref acc)) _ _ s'
  refine wpAny_assign_Name (store_ok2 I' hN hi' hx (v:=.ref acc) rfl (fun s'' I'' sb => ?_) hf)
  obtain ⟨a,sb,ha⟩:=sb
  have hne:C ≠ a:=by
    rcases ha with rfl | ha
    . exact hL
    . exact fun z => hcl x a ha z.symm
  refine ⟨m,hn.sameBut sb hne,fun h' sb' => ⟨_,H',I''.turned (t':=s''.toks) (fun b o hb e => sb'.extBut b o hb e) hC hL (.inr hsz) hcl hpn,q⟩⟩
end
section
variable {te:TE} {Q:VK} {H:Hp} {σ caps:St} {wi:TI} {tc:TT} {K:PySem.W.Frag}
theorem r_comp {o:Option TT} {g:TG} {k:Nat} {is:List Nat} (h:wi σ H (compK te o g (List.replicate k none) (capV σ is) Q)):tComp wi te o g k is σ H Q:=h
theorem len1 {us:St} (h:us.length = 1):∃ o,us = [o]:=by
  cases us with
  | nil => cases h
  | cons o r =>
    cases r with
    | nil => exact ⟨o,rfl⟩
    | cons _ _ => simp at h
noncomputable def cW (n:Nat) (acc:Addr) (Pv:Nat -> List V -> Hp -> Prop):Nat -> Nat -> List V -> Hp -> Prop:=fun i m ys H1 => m = n - i /\ i <= n /\ ys.length = i /\ H1 acc = some (.lst ys) /\ Pv i ys H1
noncomputable def cNext (n:Nat) (acc:Addr) (Pv:Nat -> List V -> Hp -> Prop) (ys:List V) (i:Nat):VK:=fun y H3 => H3 acc = some (.lst ys) /\ ∃ m',m' < n - i /\ cW n acc Pv (i + 1) m' (ys ++ [y]) (upd H3 acc (.lst (ys ++ [y])))
theorem c_next {n:Nat} {acc:Addr} {Pv:Nat -> List V -> Hp -> Prop} {ys:List V} {i:Nat} {y:V} {H3:Hp} (hlt:i < n) (hl:ys.length = i) (ha:H3 acc = some (.lst ys)) (p:Pv (i + 1) (ys ++ [y]) (upd H3 acc (.lst (ys ++ [y])))):cNext n acc Pv ys i y H3 :=
  ⟨ha,n - (i + 1),by omega,rfl,hlt,by rw [List.length_append,hl]; rfl,upd_same,p⟩
theorem r_compR {lo:Int} {n:Nat} (hn:n <= 1000) (Pv:Addr -> Nat -> List V -> Hp -> Prop) (h0:∀ acc,H acc = none -> Pv acc 0 [] (upd H acc (.lst [])))
    (hs:∀ acc i ys H1,H acc = none -> i < n -> ys.length = i -> H1 acc = some (.lst ys) -> Pv acc i ys H1 -> te (some (.int (lo + i)) :: caps) H1 (cNext n acc (Pv acc) ys i))
    (hd:∀ acc ys H1,H acc = none -> H1 acc = some (.lst ys) -> ys.length = n -> Pv acc n ys H1 -> Q (.ref acc) H1):compK te none (gName 0) (List.replicate 1 none) caps Q (Itr lo n) H:=by
  intro acc hacc
  refine ⟨cW n acc (Pv acc),⟨n,by simp,Nat.zero_le _,rfl,upd_same,h0 acc hacc⟩,?_⟩
  rintro i m ys H1 ⟨rfl,hi,hl,ha,p⟩
  refine ⟨ha,?_⟩
  by_cases hlt:i < n
  . refine .inr ⟨small1000 (by omega),hlt,fun us x H' hu y => ?_⟩
    obtain ⟨e,y⟩:=y
    subst e y
    obtain ⟨o,rfl⟩:=len1 hu
    exact ⟨⟨[some (.int (lo + i))],rfl,rfl⟩,hs acc i ys _ hacc hlt hl ha p⟩
  . have e:i = n:=by omega
    subst e
    exact .inl ⟨Nat.le_refl _,hd acc ys H1 hacc ha hl p⟩
theorem r_compL {a:Addr} {xs:List V} (hn:xs.length <= 1000) (Pv:Addr -> Nat -> List V -> Hp -> Prop) (h0:∀ acc,H acc = none -> Pv acc 0 [] (upd H acc (.lst []))) (hl':∀ acc i ys H1,H acc = none -> i <= xs.length -> Pv acc i ys H1 -> SqL K H1 a xs)
    (hs:∀ acc i ys H1 x,H acc = none -> xs[i]? = some x -> ys.length = i -> H1 acc = some (.lst ys) -> Pv acc i ys H1 -> te (some x :: caps) H1 (cNext xs.length acc (Pv acc) ys i))
    (hd:∀ acc ys H1,H acc = none -> H1 acc = some (.lst ys) -> ys.length = xs.length -> Pv acc xs.length ys H1 -> Q (.ref acc) H1):compK te none (gName 0) (List.replicate 1 none) caps Q (Itl K a) H:=by
  intro acc hacc
  refine ⟨cW xs.length acc (Pv acc),⟨xs.length,by simp,Nat.zero_le _,rfl,upd_same,h0 acc hacc⟩,?_⟩
  rintro i m ys H1 ⟨rfl,hi,hl,ha,p⟩
  have q:=hl' acc i ys H1 hacc hi p
  refine ⟨ha,?_⟩
  by_cases hlt:i < xs.length
  . refine .inr ⟨small1000 (by omega),⟨xs,xs[i],q,by simp [hlt]⟩,fun us x H' hu y => ?_⟩
    obtain ⟨e,y⟩:=y
    subst e
    obtain ⟨o,rfl⟩:=len1 hu
    exact ⟨⟨[some x],rfl,rfl⟩,hs acc i ys _ x hacc (y xs q) hl ha p⟩
  . have e:i = xs.length:=by omega
    subst e
    exact .inl ⟨⟨xs,q,Nat.le_refl _⟩,hd acc ys H1 hacc ha hl p⟩
end
end L2
namespace L2
open PySem
section
variable {H:Hp} {Q:VK} {u v:V} {a b c d:Int} {m n:Nat} {K:PySem.W.Frag}
end
end L2
namespace L2
theorem cop_mul {x y z:Int} (h1:Int.gcd x y = 1) (h2:Int.gcd x z = 1):Int.gcd x (y * z) = 1:=by
  unfold Int.gcd at *
  rw [Int.natAbs_mul]
  exact Nat.Coprime.mul_right h1 h2
theorem cop_dvd {x x' y:Int} (h:x' ∣ x) (h1:Int.gcd x y = 1):Int.gcd x' y = 1:=by
  unfold Int.gcd at *
  exact Nat.Coprime.coprime_dvd_left (Int.natAbs_dvd_natAbs.mpr h) h1
theorem rat_of {t b f g:Int} (hb:b ≠ 0) (hg:0 < g) (hc:Int.gcd f g = 1) (e:f * b = t * g):(Rat.divInt t b).num = f /\ ((Rat.divInt t b).den:Int) = g:=by
  obtain ⟨n,rfl⟩:∃ n:Nat,g = n:=⟨g.toNat,by omega⟩
  have h1:Rat.divInt t b = Rat.divInt f n:=(Rat.divInt_eq_divInt_iff hb (by omega)).mpr e.symm
  have h2:Rat.divInt f n = Rat.mk' f n (by omega) hc:=Rat.num_divInt_den (Rat.mk' f n (by omega) hc)
  rw [h1,h2]
  exact ⟨rfl,rfl⟩
theorem fdiv_mul {a g:Int} (hg:g ≠ 0) (h:g ∣ a):a.fdiv g * g = a:=by
  obtain ⟨c,rfl⟩:=h
  rw [Int.mul_fdiv_cancel_left _ hg,Int.mul_comm]
theorem dvd_cop' {k n m:Int} (h:k ∣ n * m) (g:Int.gcd k n = 1):k ∣ m:=by
  have q:=Int.dvd_gcd_mul_iff_dvd_mul.mpr h
  rw [g] at q
  simpa using q
theorem gcd_one_of {x y:Int} (h:∀ k:Int,k ∣ x -> k ∣ y -> k ∣ 1):Int.gcd x y = 1:=by
  have h1:=h (Int.gcd x y) (Int.gcd_dvd_left ..) (Int.gcd_dvd_right ..)
  have:=Int.le_of_dvd (by decide) h1
  have h0:Int.gcd x y ≠ 0:=by
    intro z
    rw [z] at h1
    simp at h1
  omega
theorem add_parts {a b c d s k f u v:Int} (hb:0 < b) (hd:0 < d) (h1:Int.gcd a b = 1) (h2:Int.gcd c d = 1) (hs:s = (Int.gcd b d:Int)) (hu:u = d.fdiv s) (hv:v = b.fdiv s)
    (hk:k = (Int.gcd (a * u + c * v) s:Int)) (hf:f = (a * u + c * v).fdiv k) :
    0 < s /\ 0 < k /\ s <= b /\ k <= s /\ (0 < b.fdiv k * u /\ Int.gcd f (b.fdiv k * u) = 1 /\ f * (b * d) = (a * d + c * b) * (b.fdiv k * u)) /\
      u.natAbs <= d.natAbs /\ v.natAbs <= b.natAbs /\ f.natAbs <= (a * u + c * v).natAbs /\ (b.fdiv k).natAbs <= b.natAbs:=by
  have le_of_mul:∀ {a g c:Int},g ≠ 0 -> a * g = c -> a.natAbs <= c.natAbs:=fun {a g c} hg e => by
    rw [← e,Int.natAbs_mul]
    exact Nat.le_mul_of_pos_right _ (by omega)
  have s0:0 < s:=by
    rw [hs]
    have:Int.gcd b d ≠ 0:=fun e => by
      have:=(Int.gcd_eq_zero_iff.mp e).1
      omega
    omega
  have sb:s ∣ b:=hs ▸ Int.gcd_dvd_left ..
  have sd:s ∣ d:=hs ▸ Int.gcd_dvd_right ..
  have eu:u * s = d:=hu ▸ fdiv_mul (by omega) sd
  have ev:v * s = b:=hv ▸ fdiv_mul (by omega) sb
  have k0:0 < k:=by
    rw [hk]
    have:Int.gcd (a * u + c * v) s ≠ 0:=fun e => by
      have:=(Int.gcd_eq_zero_iff.mp e).2
      omega
    omega
  have kt:k ∣ a * u + c * v:=hk ▸ Int.gcd_dvd_left ..
  have ks:k ∣ s:=hk ▸ Int.gcd_dvd_right ..
  have ef:f * k = a * u + c * v:=hf ▸ fdiv_mul (by omega) kt
  obtain ⟨m,em⟩:=ks
  have m0:0 < m:=by
    rcases Int.lt_or_le 0 m with q | q
    . exact q
    . have:k * m <= 0:=Int.mul_nonpos_of_nonneg_of_nonpos (by omega) q
      omega
  have u0:0 < u:=by
    rcases Int.lt_or_le 0 u with q | q
    . exact q
    . have:u * s <= 0:=Int.mul_nonpos_of_nonpos_of_nonneg q (by omega)
      omega
  have v0:0 < v:=by
    rcases Int.lt_or_le 0 v with q | q
    . exact q
    . have:v * s <= 0:=Int.mul_nonpos_of_nonpos_of_nonneg q (by omega)
      omega
  have ebk:b.fdiv k = v * m:=by
    have:b = k * (v * m):=by rw [← ev,em]; grind
    rw [this,Int.mul_fdiv_cancel_left _ (by omega)]
  have cuv:Int.gcd u v = 1:=by
    have e:Int.gcd (u * s) (v * s) = Int.gcd u v * s.natAbs:=Int.gcd_mul_right ..
    rw [eu,ev,Int.gcd_comm] at e
    have:s.natAbs = Int.gcd b d:=by omega
    rw [this] at e
    have h0:0 < Int.gcd b d:=by omega
    have:1 * Int.gcd b d = Int.gcd u v * Int.gcd b d:=by omega
    exact (Nat.eq_of_mul_eq_mul_right h0 this).symm
  have cu:Int.gcd (a * u + c * v) u = 1:=by
    refine gcd_one_of fun z h3 h4 => ?_
    have h5:z ∣ c * v:=(Int.dvd_add_right (Int.dvd_mul_of_dvd_right h4)).mp h3
    have h6:Int.gcd z c = 1:=cop_dvd (Int.dvd_trans h4 ⟨s,eu.symm⟩) (by rw [Int.gcd_comm]; exact h2)
    have h7:z ∣ v:=dvd_cop' h5 h6
    have:=Int.dvd_coe_gcd h4 h7
    rw [cuv] at this
    exact this
  have cv:Int.gcd (a * u + c * v) v = 1:=by
    refine gcd_one_of fun z h3 h4 => ?_
    have h5:z ∣ a * u:=(Int.dvd_add_left (Int.dvd_mul_of_dvd_right h4)).mp h3
    have h6:Int.gcd z a = 1:=cop_dvd (Int.dvd_trans h4 ⟨s,ev.symm⟩) (by rw [Int.gcd_comm]; exact h1)
    have h7:z ∣ u:=dvd_cop' h5 h6
    have:=Int.dvd_coe_gcd h7 h4
    rw [cuv] at this
    exact this
  have cm:Int.gcd f m = 1:=by
    have e:Int.gcd (f * k) (m * k) = Int.gcd f m * k.natAbs:=Int.gcd_mul_right ..
    have:m * k = s:=by rw [em,Int.mul_comm]
    rw [ef,this] at e
    have h3:k.natAbs = Int.gcd (a * u + c * v) s:=by omega
    rw [h3] at e
    have h0:0 < Int.gcd (a * u + c * v) s:=by omega
    have:1 * Int.gcd (a * u + c * v) s = Int.gcd f m * Int.gcd (a * u + c * v) s:=by omega
    exact (Nat.eq_of_mul_eq_mul_right h0 this).symm
  have fd:f ∣ a * u + c * v:=⟨k,ef.symm⟩
  refine ⟨s0,k0,Int.le_of_dvd hb sb,Int.le_of_dvd s0 ⟨m,em⟩,⟨?_,?_,?_⟩,le_of_mul (by omega) eu,le_of_mul (by omega) ev,le_of_mul (by omega) ef,le_of_mul (g:=k) (by omega) (by rw [ebk,← ev,em]; grind)⟩
  . rw [ebk]; exact Int.mul_pos (Int.mul_pos v0 m0) u0
  . rw [ebk]
    exact cop_mul (cop_mul (cop_dvd fd cv) cm) (cop_dvd fd cu)
  . rw [ebk]
    have e1:a * d + c * b = (f * k) * s:=by rw [ef,← eu,← ev]; grind
    rw [e1,← eu,← ev]
    have:f * (v * s * (u * s)) = f * s * v * u * s:=by grind
    rw [this]
    have:f * k * s * (v * m * u) = f * s * v * u * (k * m):=by grind
    rw [this,← em]
noncomputable def Sz (n:Nat) (q:Rat):Prop:=q.num.natAbs < 2 ^ n /\ q.den < 2 ^ n
theorem Sz.mono {m n:Nat} {q:Rat} (h:Sz m q) (l:m <= n):Sz n q :=
  have:=Nat.pow_le_pow_right (n:=2) (by decide) l
  ⟨Nat.lt_of_lt_of_le h.1 this,Nat.lt_of_lt_of_le h.2 this⟩
theorem Sz.divInt {t b:Int} {n:Nat} (hb:b ≠ 0) (ht:t.natAbs < 2 ^ n) (hs:b.natAbs < 2 ^ n):Sz n (Rat.divInt t b):=by
  have e:Rat.divInt (Rat.divInt t b).num (Rat.divInt t b).den = Rat.divInt t b:=Rat.num_divInt_den _
  have hd:((Rat.divInt t b).den:Int) ≠ 0:=by have:=(Rat.divInt t b).den_pos; omega
  rw [Rat.divInt_eq_divInt_iff hd hb] at e
  generalize hq:Rat.divInt t b = q at *
  -- num * b = t * den,lowest
  have hc:Int.gcd q.num q.den = 1:=q.reduced
  have h1:(q.den:Int) ∣ b:=dvd_cop' (k:=q.den) (n:=q.num) ⟨t,by rw [e,Int.mul_comm]⟩ (by rw [Int.gcd_comm]; exact hc)
  obtain ⟨m,em⟩:=h1
  have e2:t = q.num * m:=by
    have:t * q.den = (q.num * m) * q.den:=by rw [← e,em]; grind
    exact Int.eq_of_mul_eq_mul_right hd this
  have m0:m ≠ 0:=by rintro rfl; simp at em; exact hb em
  have hm:1 <= m.natAbs:=by omega
  constructor
  . refine Nat.lt_of_le_of_lt ?_ ht
    rw [e2,Int.natAbs_mul]
    exact Nat.le_mul_of_pos_right _ hm
  . refine Nat.lt_of_le_of_lt ?_ hs
    rw [em,Int.natAbs_mul]
    have:(q.den:Int).natAbs = q.den:=by omega
    rw [this]
    exact Nat.le_mul_of_pos_right _ hm
theorem add_divInt (q r:Rat):q + r = Rat.divInt (q.num * r.den + r.num * q.den) (q.den * r.den):=by
  have h1:(q.den:Int) ≠ 0:=by have:=q.den_pos; omega
  have h2:(r.den:Int) ≠ 0:=by have:=r.den_pos; omega
  have:=Rat.divInt_add_divInt q.num r.num h1 h2
  rw [Rat.num_divInt_den,Rat.num_divInt_den] at this
  exact this
theorem mul_divInt (q r:Rat):q * r = Rat.divInt (q.num * r.num) (q.den * r.den):=by
  have:=Rat.divInt_mul_divInt q.num r.num (d₁:=q.den) (d₂:=r.den)
  rw [Rat.num_divInt_den,Rat.num_divInt_den] at this
  exact this
theorem div_divInt (q r:Rat):q / r = Rat.divInt (q.num * r.den) (q.den * r.num):=by
  rw [Rat.div_def,Rat.inv_def]
  have:=Rat.divInt_mul_divInt q.num r.den (d₁:=q.den) (d₂:=r.num)
  rw [Rat.num_divInt_den] at this
  exact this
theorem pow_lt2 {x y m n:Nat} (h1:x < 2 ^ m) (h2:y < 2 ^ n):x * y < 2 ^ (m + n):=by
  rw [Nat.pow_add]
  exact Nat.mul_lt_mul'' h1 h2
theorem Sz.add {m n:Nat} {q r:Rat} (h1:Sz m q) (h2:Sz n r):Sz (m + n + 1) (q + r):=by
  rw [add_divInt]
  have h3:=q.den_pos
  have h4:=r.den_pos
  refine Sz.divInt (Int.ne_of_gt (Int.mul_pos (by omega) (by omega))) ?_ ?_
  . have a1:=pow_lt2 h1.1 h2.2
    have a2:=pow_lt2 h2.1 h1.2
    have e1:(q.num * r.den).natAbs = q.num.natAbs * r.den:=by rw [Int.natAbs_mul]; rfl
    have e2:(r.num * q.den).natAbs = r.num.natAbs * q.den:=by rw [Int.natAbs_mul]; rfl
    rw [Nat.add_comm n m] at a2
    rw [Nat.pow_succ]
    omega
  . have a1:=pow_lt2 h1.2 h2.2
    have e1:((q.den:Int) * r.den).natAbs = q.den * r.den:=by rw [Int.natAbs_mul]; rfl
    rw [Nat.pow_succ]
    omega
theorem Sz.neg {n:Nat} {q:Rat} (h:Sz n q):Sz n (-q):=⟨by rw [Rat.neg_num,Int.natAbs_neg]; exact h.1,h.2⟩
theorem Sz.sub {m n:Nat} {q r:Rat} (h1:Sz m q) (h2:Sz n r):Sz (m + n + 1) (q - r):=by
  rw [Rat.sub_eq_add_neg]
  exact h1.add h2.neg
theorem Sz.mul {m n:Nat} {q r:Rat} (h1:Sz m q) (h2:Sz n r):Sz (m + n) (q * r):=by
  rw [mul_divInt]
  have h3:=q.den_pos
  have h4:=r.den_pos
  refine Sz.divInt (Int.ne_of_gt (Int.mul_pos (by omega) (by omega))) ?_ ?_
  . rw [Int.natAbs_mul]; exact pow_lt2 h1.1 h2.1
  . have a1:=pow_lt2 h1.2 h2.2
    have e1:((q.den:Int) * r.den).natAbs = q.den * r.den:=by rw [Int.natAbs_mul]; rfl
    omega
theorem Sz.div {m n:Nat} {q r:Rat} (h1:Sz m q) (h2:Sz n r) (hr:r ≠ 0):Sz (m + n) (q / r):=by
  rw [div_divInt]
  have h3:=q.den_pos
  have h4:r.num ≠ 0:=fun e => hr (Rat.num_eq_zero.mp e)
  refine Sz.divInt (Int.mul_ne_zero (by omega) h4) ?_ ?_
  . have a1:=pow_lt2 h1.1 h2.2
    have e1:(q.num * (r.den:Int)).natAbs = q.num.natAbs * r.den:=by rw [Int.natAbs_mul]; rfl
    omega
  . have a1:=pow_lt2 h1.2 h2.1
    have e1:((q.den:Int) * r.num).natAbs = q.den * r.num.natAbs:=by rw [Int.natAbs_mul]; rfl
    rw [Nat.add_comm] at *
    omega
theorem less_iff (q r:Rat):decide (q.num * r.den < r.num * q.den) = decide (q < r):=by
  by_cases h:q < r
  . rw [decide_eq_true h,decide_eq_true ((Rat.lt_iff q r).mp h)]
  . rw [decide_eq_false h,decide_eq_false (fun z => h ((Rat.lt_iff q r).mpr z))]
end L2
namespace L2
noncomputable def Bd (D M:Nat) (q:Rat):Prop:=q.den ∣ D /\ -((M:Nat):Rat) <= q /\ q <= ((M:Nat):Rat)
theorem le_mul1 {a b:Int} (ha:0 <= a) (hb:1 <= b):a <= a * b:=by
  have:=Int.mul_le_mul_of_nonneg_left hb ha
  omega
theorem den_dvd {t b:Int} (hb:b ≠ 0):((Rat.divInt t b).den:Int) ∣ b:=by
  have e:Rat.divInt (Rat.divInt t b).num (Rat.divInt t b).den = Rat.divInt t b:=Rat.num_divInt_den _
  have hd:((Rat.divInt t b).den:Int) ≠ 0:=by have:=(Rat.divInt t b).den_pos; omega
  rw [Rat.divInt_eq_divInt_iff hd hb] at e
  have hc:Int.gcd (Rat.divInt t b).num (Rat.divInt t b).den = 1:=(Rat.divInt t b).reduced
  exact dvd_cop' (n:=(Rat.divInt t b).num) ⟨t,by rw [e,Int.mul_comm]⟩ (by rw [Int.gcd_comm]; exact hc)
theorem over {D:Nat} {q:Rat} (h:q.den ∣ D) (hD:D ≠ 0):∃ a:Int,q = Rat.divInt a D:=by
  obtain ⟨m,e⟩:=h
  refine ⟨q.num * m,?_⟩
  have hq:=q.den_pos
  have e1:Rat.divInt (q.num * m) D = Rat.divInt q.num q.den:=by
    rw [Rat.divInt_eq_divInt_iff (by omega) (by omega),e]
    push_cast
    grind
  rw [e1,Rat.num_divInt_den]
theorem den_add {D:Nat} {q r:Rat} (hD:D ≠ 0) (h1:q.den ∣ D) (h2:r.den ∣ D):(q + r).den ∣ D:=by
  obtain ⟨a,rfl⟩:=over h1 hD
  obtain ⟨b,rfl⟩:=over h2 hD
  rw [Rat.divInt_add_divInt a b (by omega) (by omega)]
  have e:Rat.divInt (a * D + b * D) (D * D) = Rat.divInt (a + b) D:=by
    rw [Rat.divInt_eq_divInt_iff (Int.mul_ne_zero (by omega) (by omega)) (by omega)]
    grind
  rw [e]
  exact Int.natCast_dvd_natCast.mp (den_dvd (by omega))
theorem Bd.add {D M N:Nat} {q r:Rat} (hD:D ≠ 0) (h1:Bd D M q) (h2:Bd D N r):Bd D (M + N) (q + r):=by
  obtain ⟨a1,a2,a3⟩:=h1
  obtain ⟨b1,b2,b3⟩:=h2
  refine ⟨den_add hD a1 b1,?_,?_⟩
  . have e:(((M + N:Nat)):Rat) = (M:Rat) + (N:Rat):=by push_cast; rfl
    rw [e]
    grind
  . have e:(((M + N:Nat)):Rat) = (M:Rat) + (N:Rat):=by push_cast; rfl
    rw [e]
    grind
theorem Bd.mono {D M N:Nat} {q:Rat} (h:Bd D M q) (l:M <= N):Bd D N q:=by
  obtain ⟨a1,a2,a3⟩:=h
  have e:(M:Rat) <= (N:Rat):=by
    rw [Rat.le_iff]
    simp
    omega
  exact ⟨a1,by grind,by grind⟩
theorem Bd.sz {D M n:Nat} {q:Rat} (h:Bd D M q) (hD:D ≠ 0) (h1:D < 2 ^ n) (h2:M * D < 2 ^ n):Sz n q:=by
  obtain ⟨a1,a2,a3⟩:=h
  have hle:=Nat.le_of_dvd (by omega) a1
  have k1:q.num <= M * q.den:=by
    have:=(Rat.le_iff q (M:Rat)).mp a3
    simpa using this
  have k2:-(M * q.den:Int) <= q.num:=by
    have:=(Rat.le_iff (-(M:Rat)) q).mp a2
    have e1:(-(M:Rat)).num = -(M:Int):=by rw [Rat.neg_num]; simp
    have e2:(-(M:Rat)).den = 1:=by rw [Rat.neg_den]; simp
    rw [e1,e2] at this
    simp at this
    have e3:-(M:Int) * q.den = -((M:Int) * q.den):=by grind
    omega
  refine ⟨?_,by omega⟩
  have k3:M * q.den <= M * D:=Nat.mul_le_mul_left _ hle
  have k4:((M * q.den:Nat):Int) = (M:Int) * q.den:=by push_cast; rfl
  omega
theorem Bd.of {q:Rat} {M:Nat} (h:q.num.natAbs <= M):Bd q.den M q:=by
  have hp:=q.den_pos
  refine ⟨Nat.dvd_refl _,?_,?_⟩
  . rw [Rat.le_iff]
    have e1:(-(M:Rat)).num = -(M:Int):=by rw [Rat.neg_num]; simp
    have e2:(-(M:Rat)).den = 1:=by rw [Rat.neg_den]; simp
    rw [e1,e2]
    have:(M:Int) <= (M:Int) * q.den:=le_mul1 (by omega) (by omega)
    have e3:-(M:Int) * q.den = -((M:Int) * q.den):=by grind
    simp
    omega
  . rw [Rat.le_iff]
    have:(M:Int) <= (M:Int) * q.den:=le_mul1 (by omega) (by omega)
    simp
    omega
theorem Bd.dvd {D E M:Nat} {q:Rat} (h:Bd D M q) (d:D ∣ E):Bd E M q:=⟨Nat.dvd_trans h.1 d,h.2⟩
end L2
namespace L2
open PySem
noncomputable def Ris (xs:Array Nat):Prop:=xs.toList.Pairwise (· < ·)
theorem Ris.lt {xs:Array Nat} (h:Ris xs) {i j:Nat} (hij:i < j) (hj:j < xs.size):xs[i]'(Nat.lt_trans hij hj) < xs[j]:=by
  have:=List.pairwise_iff_getElem.mp h i j (by simpa using Nat.lt_trans hij hj) (by simpa using hj) hij
  simpa using this
theorem Ris.le {xs:Array Nat} (h:Ris xs) {i j:Nat} (hij:i <= j) (hj:j < xs.size):xs[i]'(Nat.lt_of_le_of_lt hij hj) <= xs[j]:=by
  rcases Nat.lt_or_eq_of_le hij with h1 | h1
  . exact Nat.le_of_lt (h.lt h1 hj)
  . subst h1
    exact Nat.le_refl _
noncomputable def Stand (xs:Array Nat) (j r:Nat):Prop:=r <= xs.size /\ (∀ k (hk:k < xs.size),k < r -> xs[k] < j) /\ ∀ k (hk:k < xs.size),r <= k -> j <= xs[k]
theorem below_go {xs:Array Nat} {j:Nat} (h:Ris xs):∀ (fuel lo hi:Nat),hi - lo <= fuel -> lo <= hi -> hi <= xs.size -> (∀ k (hk:k < xs.size),k < lo -> xs[k] < j) -> (∀ k (hk:k < xs.size),hi <= k -> j <= xs[k]) -> Stand xs j (SetTable.below.go xs j fuel lo hi)
  | 0,lo,hi,hf,hl,hh,h1,h2 => by
    have:lo = hi:=by omega
    subst this
    unfold SetTable.below.go
    exact ⟨hh,h1,h2⟩
  | fuel + 1,lo,hi,hf,hl,hh,h1,h2 => by
    unfold SetTable.below.go
    by_cases hlt:lo < hi
    . rw [if_pos hlt]
      have hm:(lo + hi) / 2 < xs.size:=by omega
      have eg:xs.getD ((lo + hi) / 2) j = xs[(lo + hi) / 2]:=by simp [Array.getD,hm]
      show Stand xs j (if xs.getD ((lo + hi) / 2) j < j then SetTable.below.go xs j fuel ((lo + hi) / 2 + 1) hi else SetTable.below.go xs j fuel lo ((lo + hi) / 2))
      rw [eg]
      by_cases c:xs[(lo + hi) / 2] < j
      . rw [if_pos c]
        exact below_go h fuel ((lo + hi) / 2 + 1) hi (by omega) (by omega) hh (fun k hk hk' => Nat.lt_of_le_of_lt (h.le (show k <= (lo + hi) / 2 by omega) hm) c) h2
      . rw [if_neg c]
        exact below_go h fuel lo ((lo + hi) / 2) (by omega) (by omega) (by omega) h1 fun k hk hk' => Nat.le_trans (Nat.le_of_not_lt c) (h.le hk' hk)
    . rw [if_neg hlt]
      have:lo = hi:=by omega
      subst this
      exact ⟨hh,h1,h2⟩
theorem below_stand {xs:Array Nat} (j:Nat) (h:Ris xs):Stand xs j (SetTable.below xs j) :=
  below_go h xs.size 0 xs.size (by omega) (Nat.zero_le _) (Nat.le_refl _) (fun _ _ z => absurd z (Nat.not_lt_zero _)) fun k hk z => absurd hk (Nat.not_lt.mpr z)
theorem stand_one {xs:Array Nat} {j r r':Nat} (h:Stand xs j r) (h':Stand xs j r'):r = r':=by
  rcases Nat.lt_trichotomy r r' with c | c | c
  . have hk:r < xs.size:=Nat.lt_of_lt_of_le c h'.1
    exact absurd (h'.2.1 r hk c) (Nat.not_lt.mpr (h.2.2 r hk (Nat.le_refl _)))
  . exact c
  . have hk:r' < xs.size:=Nat.lt_of_lt_of_le c h.1
    exact absurd (h.2.1 r' hk c) (Nat.not_lt.mpr (h'.2.2 r' hk (Nat.le_refl _)))
theorem below_zero {xs:Array Nat} (h:Ris xs):SetTable.below xs 0 = 0 :=
  stand_one (below_stand 0 h) ⟨Nat.zero_le _,fun _ _ z => absurd z (Nat.not_lt_zero _),fun _ _ _ => Nat.zero_le _⟩
theorem below_next {xs:Array Nat} (h:Ris xs) {i:Nat} (hi:i < xs.size):SetTable.below xs (xs[i] + 1) = i + 1 :=
  stand_one (below_stand _ h) ⟨hi,fun k hk z => Nat.lt_succ_of_le (h.le (Nat.le_of_lt_succ z) hi),fun k hk z => Nat.succ_le_of_lt (h.lt z hk)⟩
theorem ris_put {xs:Array Nat} {j:Nat} (h:Ris xs) (hn:xs[SetTable.below xs j]? ≠ some j):Ris (SetTable.insertAt xs (SetTable.below xs j) j):=by
  have st:=below_stand j h
  generalize SetTable.below xs j = p at st hn
  unfold Ris
  rw [SetTable.toList_insertAt]
  have h1:∀ a ∈ xs.toList.take p,a < j:=fun a ha => by
    obtain ⟨k,hk,e⟩:=List.getElem_of_mem ha
    rw [List.length_take] at hk
    rw [List.getElem_take,Array.getElem_toList] at e
    rw [← e]
    exact st.2.1 k (by simp at hk; omega) (by omega)
  have h2:∀ a ∈ xs.toList.drop p,j < a:=fun a ha => by
    obtain ⟨k,hk,e⟩:=List.getElem_of_mem ha
    rw [List.length_drop,Array.length_toList] at hk
    rw [List.getElem_drop,Array.getElem_toList] at e
    have hp:p < xs.size:=by omega
    have h0:=st.2.2 p hp (Nat.le_refl _)
    have h3:xs[p] ≠ j:=fun z => hn (by rw [Array.getElem?_eq_getElem hp,z])
    have h4:=h.le (show p <= p + k by omega) (by omega)
    rw [← e]
    omega
  refine List.pairwise_append.mpr ⟨h.sublist (List.take_sublist ..),List.pairwise_cons.mpr ⟨h2,h.sublist (List.drop_sublist ..)⟩,fun a ha b hb => ?_⟩
  rcases List.mem_cons.mp hb with rfl | hb
  . exact h1 a ha
  . exact Nat.lt_trans (h1 a ha) (h2 b hb)
noncomputable def Tb (w:World) (t:SetTable) (_n:Nat):Prop:=t.led = !(w.params.followText "set-order") /\ Ris t.place /\ t.dummies = #[]
theorem ris_range (n:Nat):Ris (Array.range n):=by
  unfold Ris
  rw [Array.toList_range]
  exact List.pairwise_lt_range
theorem has_nil (j:Nat):SetTable.has #[] j = false:=by
  unfold SetTable.has
  simp
theorem probe_free {t:SetTable} {f:Nat -> Int} {h:Int} (ht:t.dummies = #[]):∀ (fuel:Nat) (p:SetTable.Probe) (j:Nat) (d:Option Nat),SetTable.probe.go t f h fuel p = some (.empty j d) -> p.dummy = none -> t.slot j = .empty /\ d = none
  | 0,p,j,d,e,hd => nomatch e
  | fuel + 1,p,j,d,e,hd => by
    have adv:(t.advance p).dummy = none:=by
      unfold SetTable.advance
      split
      . exact hd
      . exact hd
    unfold SetTable.probe.go at e
    cases hs:t.slot p.j with
    | empty =>
      rw [hs] at e
      have e:=Option.some.inj e
      injection e with e1 e2
      exact ⟨by rw [← e1]; exact hs,by rw [← e2]; exact hd⟩
    | dummy =>
      exfalso
      unfold SetTable.slot at hs
      dsimp only at hs
      rw [ht,has_nil,if_neg Bool.false_ne_true] at hs
      split at hs <;> cases hs
    | live i =>
      rw [hs] at e
      dsimp only at e
      split at e
      . exact nomatch Option.some.inj e
      . exact probe_free ht fuel _ j d e adv
theorem slot_free {t:SetTable} {j:Nat} (h:t.slot j = .empty):t.place[SetTable.below t.place j]? ≠ some j:=fun e => by
  unfold SetTable.slot at h
  dsimp only at h
  rw [e,if_pos (by simp)] at h
  cases h
theorem layNew_tb {w:World} {t:SetTable} {n m:Nat} (es:Array (Int×Value)) (h:Int) (x:Value) (ht:Tb w t n):Tb w (layNew t es h x).2.1 m:=by
  obtain ⟨h1,h2,h3⟩:=ht
  unfold layNew
  split
  . rename_i slot wd e
    dsimp only
    have hp:Tb w (t.put slot).1 m:=by
      have hs:t.place[SetTable.below t.place slot]? ≠ some slot:=by
        unfold SetTable.freeSlot at e
        split at e
        . rename_i j d e'
          have:=probe_free h3 _ _ _ _ e' rfl
          rw [this.2] at e
          have e:=Option.some.inj e
          have e1:j = slot:=congrArg Prod.fst e
          rw [← e1]
          exact slot_free this.1
        . cases e
      unfold SetTable.put
      refine ⟨h1,ris_put h2 hs,?_⟩
      show (if SetTable.has t.dummies slot then _ else t.dummies) = #[]
      rw [h3,has_nil,if_neg Bool.false_ne_true]
    unfold SetTable.orStandIn
    split
    . exact hp
    . exact ⟨h1,ris_range _,rfl⟩
  . exact ⟨h1,ris_range _,rfl⟩
theorem relay_tb {w:World} {t:SetTable} {n m:Nat} (es:Array (Int×Value)) (k:Nat) (ht:Tb w t n):Tb w (relayAll t es k).2.1 m:=by
  obtain ⟨h1,h2,h3⟩:=ht
  unfold relayAll
  split
  . rename_i t' order e
    unfold SetTable.relaid SetTable.laid at e
    cases hc:SetTable.layClean (SetTable.sizeAbove k - 1) (Array.map (fun x => x.fst) es) with
    | none =>
      rw [hc] at e
      exact nomatch e
    | some ow =>
    rw [hc] at e
    have e3:=congrArg Prod.fst (Option.some.inj e)
    dsimp only at e3
    subst e3
    dsimp only
    split
    . refine ⟨h1,?_,rfl⟩
      unfold Ris
      dsimp only
      refine List.pairwise_map.mpr (List.pairwise_filterMap.mpr (List.pairwise_lt_range.imp fun {a b} hab x hx y hy => ?_))
      simp only [Option.map_eq_some_iff] at hx hy
      obtain ⟨_,_,rfl⟩:=hx
      obtain ⟨_,_,rfl⟩:=hy
      exact hab
    . exact ⟨h1,ris_range _,rfl⟩
  . exact ⟨h1,ris_range _,rfl⟩
section
variable {prog:Program} {w:World} {K:Type} [DecidableEq K] {knd:KeyKind prog w K} {A:Around} {E:Value -> Shared -> Prop} {s:Shared}
theorem add_text {a:Addr} {o:Obj} {es:Array (Int×Value)} {ep:Nat} {t:SetTable} {x:Value} {k:K} {Q:Bool -> Shared -> Prop} (hsc:x.scannable = true) (hkey:knd.is k x = true) (ho:s.heap.get? a = some o) (hex:o.ExactSet) (hd:o.data = .set es ep t)
    (hel:ElemsOf knd es.toList) (hb:es.size + 1 < scanBound) (hf:t.fits es.size = true) (ht:Tb w t es.size)
    (h1:(∃ e ∈ es.toList,knd.is k e.2 = true) -> Q false s)
    (h2:(∀ e ∈ es.toList,knd.is k e.2 = false) -> ∀ (h':Heap) (es':Array (Int×Value)) (t':SetTable) (ep':Nat),Heap.SameBut a s.heap h' -> h'.get? a = some { o with data:=.set es' ep' t' } -> List.Perm es'.toList (es.toList ++ [(knd.hash k,x)]) ->
      t'.fits es'.size = true -> Tb w t' es'.size -> Q true { s with heap:=h' }):wpAny (model prog w) A (setAddHashed a x (knd.hash k)) Q E s:=by
  unfold setAddHashed setAddHashedIn
  refine wpAny_holding (wpAny_bind (wpAny_setState_of ho hd hf ?_))
  dsimp only
  rw [byScan_of hsc (by omega) hel,if_pos rfl]
  unfold setAddByScan
  refine wpAny_bind (wpAny_bind (wpAny_rule (wpAny_bind (wpAny_setScan_of hkey ho hd hf hel ?_))))
  cases hr:List.findIdx? (fun e => knd.is k e.2) es.toList with
  | some j =>
    obtain ⟨hj,hpj,_⟩:=List.findIdx?_eq_some_iff_getElem.mp hr
    exact wpAny_pure (wpAny_pure (h1 ⟨_,List.getElem_mem hj,hpj⟩))
  | none =>
    have hno:=List.findIdx?_eq_none_iff.mp hr
    have gw:∀ (b:Bool) {s₁:Shared} {Q':Unit -> Shared -> Prop},Q' () s₁ -> wpAny (model prog w) A (match b with | true => rule "set.scan.the-table-gave-way" | false => pure ()) Q' E s₁:=fun b _ _ hq => by
      cases b
      . exact wpAny_pure hq
      . exact wpAny_rule hq
    dsimp only
    have p1:=layNew_perm t es (knd.hash k) x
    have f1:=layNew_fits t es (knd.hash k) x
    have l1:=fun m => layNew_tb (m:=m) es (knd.hash k) x ht
    generalize layNew t es (knd.hash k) x = L at p1 f1 l1 ⊢
    obtain ⟨es1,t1,wd,gave⟩:=L
    dsimp only at p1 f1 l1 ⊢
    rw [Array.toList_push] at p1
    have hz:es1.size = es.size + 1:=by
      have:=p1.length_eq
      simpa using this
    refine wpAny_bind (gw _ ?_)
    have fin:∀ t2:SetTable,t2.fits es1.size = true -> (∀ m,Tb w t2 m) -> wpAny (model prog w) A (do
        storeSet a es1 t2
        if (!wd && t2.tooFull) = true then do
            (match (relayAll t2 es1 (SetTable.grown es1.size)).2.2 with | true => rule "set.scan.the-table-gave-way" | false => pure ())
            storeSet a (relayAll t2 es1 (SetTable.grown es1.size)).1 (relayAll t2 es1 (SetTable.grown es1.size)).2.1
            pure (some true)
          else pure (some true)) (fun r s₁ => wpAny (model prog w) A (match r with | some added => pure added | none => setAddHashedIn a x (knd.hash k) 99999) Q E s₁) E s:=by
      intro t2 f2 l2
      refine wpAny_bind (wpAny_storeSet_of ho hd ?_ (fits_of_scanBound (by omega)))
      have g1:(s.heap.update a (Obj.putSet es1 t2)).get? a = some { o with data:=.set es1 (ep + 1) t2 }:=by
        have z:=Heap.get?_update_self (Obj.putSet es1 t2) ho (by rw [putSet_of es1 t2 hd]; rfl)
        rw [putSet_of es1 t2 hd] at z
        exact z
      have sb1:=Heap.SameBut.update s.heap a (Obj.putSet es1 t2)
      split
      . have p2:=relayAll_perm t2 es1 (SetTable.grown es1.size)
        have f3:=relayAll_fits t2 es1 (SetTable.grown es1.size)
        have l3:=fun m => relay_tb (m:=m) es1 (SetTable.grown es1.size) (l2 0)
        generalize relayAll t2 es1 (SetTable.grown es1.size) = R at p2 f3 l3 ⊢
        obtain ⟨es2,t3,gave2⟩:=R
        dsimp only at p2 f3 l3 ⊢
        have hz2:es2.size = es1.size:=by
          have:=p2.length_eq
          simpa using this
        refine wpAny_bind (gw _ ?_)
        refine wpAny_bind (wpAny_storeSet_of g1 rfl ?_ (fits_of_scanBound (by omega)))
        have g2:((s.heap.update a (Obj.putSet es1 t2)).update a (Obj.putSet es2 t3)).get? a = some { o with data:=.set es2 (ep + 1 + 1) t3 }:=by
          have z:=Heap.get?_update_self (Obj.putSet es2 t3) g1 (by rw [putSet_of es2 t3 rfl]; rfl)
          rw [putSet_of es2 t3 rfl] at z
          exact z
        exact wpAny_pure (wpAny_pure (h2 hno _ es2 t3 _ (sb1.trans (Heap.SameBut.update _ a _)) g2 (p2.trans p1) f3 (l3 _)))
      . exact wpAny_pure (wpAny_pure (h2 hno _ es1 t2 _ sb1 g1 p1 f2 (l2 _)))
    split
    . refine wpAny_bind ?_
      rw [hashByValue_scannable 8 hsc]
      refine wpAny_pure ?_
      cases plainKind x with
      | true =>
        rw [if_pos rfl]
        exact fin t1 f1 l1
      | false =>
        rw [if_neg Bool.false_ne_true]
        exact fin _ (SetTable.fits_plain_off f1) l1
    . refine wpAny_bind (wpAny_pure ?_)
      rw [if_pos rfl]
      exact fin t1 f1 l1
end
end L2
namespace L2
open PySem
section
variable {prog:Program} {w:World} {A:Around} {E:Value -> Shared -> Prop} {s:Shared}
theorem drawn_any {M:Model} {src:Source} {n:Nat} {Q:Nat -> Shared -> Prop} (hn:n ≠ 0) (h:∀ i d,i < n -> Q i { s with drawn:=d }):wpAny M A (choose src n) Q E s:=by
  intro Γ p _
  show Sem.wp M Γ (.choose src n .pure) _ _ p s
  rw [Sem.wp_choose]
  exact ⟨hn,by rw [Sem.wp]; exact h _ _ (Nat.mod_lt _ (Nat.pos_of_ne_zero hn))⟩
theorem erase_perm {α:Type}:∀ {l:List α} {i:Nat} {x:α},l[i]? = some x -> (x :: l.eraseIdx i).Perm l
  | [],i,x,h => by simp at h
  | a :: l,0,x,h => by simp at h; subst h; exact .refl _
  | a :: l,i + 1,x,h => by
    have ih:=erase_perm (l:=l) (i:=i) (x:=x) (by simpa using h)
    show (x :: a :: l.eraseIdx i).Perm (a :: l)
    exact (List.Perm.swap ..).trans (ih.cons a)
theorem order_any {M:Model} {α:Type}:∀ (n:Nat) (xs:List α) (s:Shared) (Q:List α -> Shared -> Prop),xs.length = n -> (∀ ys d,ys.Perm xs -> Q ys { s with drawn:=d }) -> wpAny M A (drawOrder n xs) Q E s
  | 0,xs,s,Q,hl,h => by
    have:xs = []:=List.length_eq_zero_iff.mp hl
    subst this
    exact wpAny_pure (h [] s.drawn (.refl _))
  | n + 1,[],s,Q,hl,h => by cases hl
  | n + 1,x :: xs,s,Q,hl,h => by
    unfold drawOrder
    refine wpAny_bind (drawn_any (by simp) fun i d hi => ?_)
    obtain ⟨y,hy⟩:∃ y,(x :: xs)[i]? = some y:=⟨_,List.getElem?_eq_getElem hi⟩
    rw [hy]
    refine wpAny_bind (order_any n _ _ _ ?_ fun ys d' hp => wpAny_pure (h _ d' ?_))
    . have:=(erase_perm hy).length_eq
      simp at this hl ⊢
      omega
    . exact (hp.cons y).trans (erase_perm hy)
theorem pick_go {α:Type} (next:Nat -> Nat):∀ (fuel k:Nat) (left:List α) (out:Array α),left.length = fuel -> (pickOrder.go next fuel k left out).toList.Perm (out.toList ++ left)
  | 0,k,left,out,hl => by
    have:left = []:=List.length_eq_zero_iff.mp hl
    subst this
    unfold pickOrder.go
    simp
  | fuel + 1,k,left,out,hl => by
    unfold pickOrder.go
    have hlt:next k % left.length < left.length:=Nat.mod_lt _ (by omega)
    obtain ⟨y,hy⟩:∃ y,left[next k % left.length]? = some y:=⟨_,List.getElem?_eq_getElem hlt⟩
    rw [hy]
    dsimp only
    have hp:=erase_perm hy
    have ih:=pick_go next fuel (k + 1) (left.eraseIdx (next k % left.length)) (out.push y) (by
      have:=hp.length_eq
      simp at this
      omega)
    refine ih.trans ?_
    rw [Array.toList_push,List.append_assoc]
    exact List.Perm.append_left _ hp
theorem pick_perm {α:Type} (next:Nat -> Nat) (xs:Array α):(pickOrder next xs).toList.Perm xs.toList:=by
  unfold pickOrder
  have:=pick_go next xs.size 0 xs.toList #[] (by simp)
  simpa using this
theorem slot_si_next:Slot "set_iterator" "__next__" "set_iterator.__next__" :=
  .of (owner:="set_iterator") (n:="__next__") (by rw [typeLookup_type,builtinLookup_eq_fast]; kernel_rfl) (by decide +kernel) (by decide +kernel) (by decide +kernel) (by first | exact .inl (by decide +kernel) | exact .inr (by decide +kernel)) (by rw [isSubtype_type]; kernel_rfl)
theorem entry_si_next:entryFor table "set_iterator.__next__" = some Builtin.«set_iterator.__next__»:=entryFor_of_tree (by kernel_rfl)
theorem entry_s_iter:entryFor table "set.__iter__" = some Builtin.«frozenset.__iter__»:=entryFor_alias (id':="frozenset.__iter__") (by kernel_rfl) rfl (by decide +kernel) (by kernel_rfl)
theorem args_si_next (a:Value):argsOk "set_iterator.__next__" ⟨[a],[]⟩:=by
  unfold argsOk
  kernel_rfl
end
end L2
namespace L2
open PySem
noncomputable def setObj (es:Array (Int×Value)) (ep:Nat) (t:SetTable):Obj:={ cls:=.type "set",dict:=none,data:=.set es ep t,slots:=#[] }
noncomputable def IsSI (h:Heap) (it:Addr) (first:Value) (i:Nat) (a:Addr) (n ep:Nat):Prop :=
  ∃ o,h.get? it = some o /\ o.cls = .type "set_iterator" /\ o.data = .fields #[first,.int i 0,.ref a,.int n 0,.int ep 0]
theorem IsSI.typeIs {s:Shared} {it a:Addr} {first:Value} {i n ep:Nat} (x:IsSI s.heap it first i a n ep):s.TypeIs (.ref it) "set_iterator":=let ⟨o,ho,hc,_⟩:=x; ⟨o,ho,hc⟩
section
variable {prog:Program} {w:World} {A:Around} {E:Value -> Shared -> Prop} {s:Shared}
theorem si_call {it:Addr} {Q:Option Value -> Shared -> Prop} (hT:s.TypeIs (.ref it) "set_iterator")
    (h:wpAny (model prog w) A.in1 (Builtin.«set_iterator.__next__» ⟨[.ref it],[]⟩) (fun fin s' => ∃ v,fin = .done (.ret v) /\ Q (some v) s') (fun e s' => wpAny (model prog w) A (do if ← isInstance e (.type "StopIteration") then pure none else throw e) Q E s') s) :
    wpAny (model prog w) A (pyNext (.ref it)) Q E s:=by
  unfold pyNext
  have hc:wpAny (model prog w) A (callSpecial? (.ref it) (Str.ofString "__next__")) (fun r s' => ∃ v,r = some v /\ Q (some v) s') (fun e s' => wpAny (model prog w) A (do if ← isInstance e (.type "StopIteration") then pure none else throw e) Q E s') s :=
    wpAny_callSpecial?_slot (name:=Str.ofString "__next__") hT slot_si_next (wpAny_call_entry slot_si_next hT entry_si_next (wpAny_mono h (fun fin s' ⟨v,e,q⟩ => ⟨v,e,v,rfl,q⟩) fun _ _ e => e) (args_si_next _))
  refine wpAny_bind (wpAny_attempt (wpAny_mono hc (fun r s' hr => ?_) fun e s' he => he))
  obtain ⟨v,rfl,q⟩:=hr
  exact wpAny_pure q
theorem si_stop {e:Value} {Q:Option Value -> Shared -> Prop} (hT:s.TypeIs e "StopIteration") (h:Q none s):wpAny (model prog w) A (do if ← isInstance e (.type "StopIteration") then pure none else throw e) Q E s:=by
  refine wpAny_bind (wpAny_isInstance hT isSubtype_stop ?_)
  exact wpAny_pure h
theorem si_raise {α:Type} {Q:α -> Shared -> Prop} (hh:A.handled = none) (h:∀ e h',(∀ b o,s.heap.get? b = some o -> h'.get? b = some o) -> Shared.TypeIs { s with heap:=h' } e "StopIteration" -> E e { s with heap:=h' }) :
    wpAny (model prog w) A (do raiseNew (← newExc (.type "StopIteration") []):Sem α) Q E s:=by
  refine wpAny_bind ?_
  simp only [newExc,newTuple]
  refine wpAny_bind (wpAny_newObj_type ?_ (by size_fits))
  refine wpAny_bind (m:=firstArgMember _ _) (wpAny_of_eq (a:=Value.none) (by first | rfl | (simp only [firstArgMember]; rfl)) ?_)
  refine wpAny_newObj_type ?_ (by size_fits)
  simp only [raiseNew]
  refine wpAny_bind (wpAny_handled ?_)
  rw [hh]
  refine wpAny_bind (wpAny_pure (wpAny_throw ?_))
  exact h (.ref _) _ (fun b o e => Heap.get?_push_of_some _ (Heap.get?_push_of_some _ e)) ⟨_,Heap.get?_push_size _ rfl,rfl⟩
variable {a it:Addr} {es:Array (Int×Value)} {ep i n:Nat} {t:SetTable} {first:Value}
theorem si_open {Q:Fin -> Shared -> Prop} (hi:IsSI s.heap it first i a es.size ep) (ha:s.heap.get? a = some (setObj es ep t)) (hf:t.fits es.size = true)
    (h:wpAny (model prog w) A (if let .int slot _:=first then do
        match ← setNext a slot.toNat i ep with
        | some (x,next) =>
          setField (.ref it) 0 (rawInt next)
          setField (.ref it) 1 (rawInt ((i:Int) + 1))
          ret x
        | none => setField (.ref it) 2 .none; raiseNew (← newExc (.type "StopIteration") [])
      else do
        let some places ← seqItems? first | unsupported "internal:set_iterator"
        match places[i]? with
        | some (.int place _) =>
          let x ← setNextDrawn a place.toNat ep
          setField (.ref it) 1 (rawInt ((i:Int) + 1))
          ret x
        | some _ => unsupported "internal:set_iterator"
        | none => setField (.ref it) 0 (rawInt 0); setField (.ref it) 2 .none; raiseNew (← newExc (.type "StopIteration") [])) Q E s) :
    wpAny (model prog w) A (Builtin.«set_iterator.__next__» ⟨[.ref it],[]⟩) Q E s:=by
  obtain ⟨o,ho,hc,hd⟩:=hi
  unfold Builtin.«set_iterator.__next__»
  refine wpAny_bind (m:=slotArgs _ _ _) (wpAny_pure ?_)
  refine wpAny_bind (wpAny_fieldsOf ho hd ?_)
  dsimp only
  refine wpAny_bind (wpAny_setEntries_of ha rfl hf ?_)
  rw [if_neg (by simp)]
  exact h
theorem si_set {o:Obj} {vs:Array Value} {k:Nat} {v:Value} (h:Heap) (ho:h.get? it = some o) (hd:o.data = .fields vs):(h.update it (Obj.mapFields (·.setIfInBounds k v))).get? it = some (o.mapFields (·.setIfInBounds k v)) :=
  Heap.get?_update_self _ ho (Obj.isFreed_of_fields (Obj.data_mapFields hd _))
theorem si_next_d {tp:Addr} {places:List Nat} {p:Nat} {x:Int×Value} {Q:Option Value -> Shared -> Prop} (hi:IsSI s.heap it (.ref tp) i a es.size ep) (ha:s.heap.get? a = some (setObj es ep t)) (hf:t.fits es.size = true) (hta:it ≠ a) (htt:it ≠ tp)
    (ht:∃ o k,s.heap.get? tp = some o /\ o.data = .seq (places.map fun j => rawInt (j:Nat)).toArray k) (hp:places[i]? = some p) (hx:es[p]? = some x)
    (h:∀ h',IsSI h' it (.ref tp) (i + 1) a es.size ep -> Heap.SameBut it s.heap h' -> Q (some x.2) { s with heap:=h' }):wpAny (model prog w) A (pyNext (.ref it)) Q E s:=by
  refine si_call hi.typeIs (si_open hi ha hf ?_)
  obtain ⟨o,ho,hc,hd⟩:=hi
  obtain ⟨ot,kt,h1,h2⟩:=ht
  show wpAny (model prog w) A.in1 (do
        let some places ← seqItems? (.ref tp) | unsupported "internal:set_iterator"
        match places[i]? with
        | some (.int place _) =>
          let x ← setNextDrawn a place.toNat ep
          setField (.ref it) 1 (rawInt ((i:Int) + 1))
          ret x
        | some _ => unsupported "internal:set_iterator"
        | none => setField (.ref it) 0 (rawInt 0); setField (.ref it) 2 .none; raiseNew (← newExc (.type "StopIteration") [])) _ _ s
  unfold seqItems?
  refine wpAny_bind (wpAny_bind (wpAny_load h1 ?_))
  rw [h2]
  refine wpAny_pure ?_
  have e1:(places.map fun j => rawInt (j:Nat)).toArray[i]? = some (rawInt (p:Nat)):=by simp [hp]
  dsimp only
  rw [e1]
  show wpAny (model prog w) A.in1 (do
          let x ← setNextDrawn a ((p:Int)).toNat ep
          setField (.ref it) 1 (rawInt ((i:Int) + 1))
          ret x) _ _ s
  unfold setNextDrawn
  refine wpAny_bind (wpAny_bind (wpAny_setState_of ha rfl hf ?_))
  dsimp only
  rw [if_neg (by simp),Int.toNat_natCast,hx]
  refine wpAny_pure ?_
  refine wpAny_bind (wpAny_setField ho hd (by simp) ?_)
  refine wpAny_pure ⟨_,rfl,h _ ⟨_,si_set s.heap ho hd,(Obj.cls_mapFields ..).trans hc,?_⟩ (Heap.SameBut.update ..)⟩
  rw [Obj.data_mapFields hd]
  simp [rawInt]
theorem si_end_d {tp:Addr} {places:List Nat} {Q:Option Value -> Shared -> Prop} (hh:A.handled = none) (hi:IsSI s.heap it (.ref tp) i a es.size ep) (ha:s.heap.get? a = some (setObj es ep t)) (hf:t.fits es.size = true)
    (ht:∃ o k,s.heap.get? tp = some o /\ o.data = .seq (places.map fun j => rawInt (j:Nat)).toArray k) (hp:places[i]? = none)
    (h:∀ h',Heap.ExtBut it s.heap h' -> Q none { s with heap:=h' }):wpAny (model prog w) A (pyNext (.ref it)) Q E s:=by
  refine si_call hi.typeIs (si_open hi ha hf ?_)
  obtain ⟨o,ho,hc,hd⟩:=hi
  obtain ⟨ot,kt,h1,h2⟩:=ht
  show wpAny (model prog w) A.in1 (do
        let some places ← seqItems? (.ref tp) | unsupported "internal:set_iterator"
        match places[i]? with
        | some (.int place _) =>
          let x ← setNextDrawn a place.toNat ep
          setField (.ref it) 1 (rawInt ((i:Int) + 1))
          ret x
        | some _ => unsupported "internal:set_iterator"
        | none => setField (.ref it) 0 (rawInt 0); setField (.ref it) 2 .none; raiseNew (← newExc (.type "StopIteration") [])) _ _ s
  unfold seqItems?
  refine wpAny_bind (wpAny_bind (wpAny_load h1 ?_))
  rw [h2]
  refine wpAny_pure ?_
  have e1:(places.map fun j => rawInt (j:Nat)).toArray[i]? = none:=by simpa using hp
  dsimp only
  rw [e1]
  refine wpAny_bind (wpAny_setField ho hd (by simp) ?_)
  have g1:=si_set (k:=0) (v:=rawInt 0) s.heap ho hd
  refine wpAny_bind (wpAny_setField g1 (Obj.data_mapFields hd _) (by simp) ?_)
  refine si_raise (by simpa using hh) fun e h' k hT => ?_
  refine si_stop hT (h h' fun b o' hb e' => k b o' ?_)
  exact (Heap.get?_update_other _ _ (Ne.symm hb)).trans ((Heap.get?_update_other _ _ (Ne.symm hb)).trans e')
theorem si_next_s {slot next:Nat} {x:Value} {Q:Option Value -> Shared -> Prop} (hi:IsSI s.heap it (.int slot 0) i a es.size ep) (ha:s.heap.get? a = some (setObj es ep t)) (hf:t.fits es.size = true)
    (hn:∀ (A:Around) (E:Value -> Shared -> Prop) (Q:Option (Value×Nat) -> Shared -> Prop),Q (some (x,next)) s -> wpAny (model prog w) A (setNext a slot i ep) Q E s)
    (h:∀ h',IsSI h' it (.int next 0) (i + 1) a es.size ep -> Heap.SameBut it s.heap h' -> Q (some x) { s with heap:=h' }):wpAny (model prog w) A (pyNext (.ref it)) Q E s:=by
  refine si_call hi.typeIs (si_open hi ha hf ?_)
  obtain ⟨o,ho,hc,hd⟩:=hi
  show wpAny (model prog w) A.in1 (do
        match ← setNext a ((slot:Int)).toNat i ep with
        | some (x,next) =>
          setField (.ref it) 0 (rawInt next)
          setField (.ref it) 1 (rawInt ((i:Int) + 1))
          ret x
        | none => setField (.ref it) 2 .none; raiseNew (← newExc (.type "StopIteration") [])) _ _ s
  rw [Int.toNat_natCast]
  refine wpAny_bind (hn _ _ _ ?_)
  refine wpAny_bind (wpAny_setField ho hd (by simp) ?_)
  have g1:=si_set (k:=0) (v:=rawInt next) s.heap ho hd
  refine wpAny_bind (wpAny_setField g1 (Obj.data_mapFields hd _) (by simp) ?_)
  refine wpAny_pure ⟨_,rfl,h _ ⟨_,si_set _ g1 (Obj.data_mapFields hd _),(Obj.cls_mapFields ..).trans ((Obj.cls_mapFields ..).trans hc),?_⟩ ((Heap.SameBut.update ..).trans (Heap.SameBut.update ..))⟩
  rw [Obj.data_mapFields (Obj.data_mapFields hd _)]
  simp [rawInt]
theorem si_end_s {slot:Nat} {Q:Option Value -> Shared -> Prop} (hh:A.handled = none) (hi:IsSI s.heap it (.int slot 0) i a es.size ep) (ha:s.heap.get? a = some (setObj es ep t)) (hf:t.fits es.size = true)
    (hn:∀ (A:Around) (E:Value -> Shared -> Prop) (Q:Option (Value×Nat) -> Shared -> Prop),Q none s -> wpAny (model prog w) A (setNext a slot i ep) Q E s)
    (h:∀ h',Heap.ExtBut it s.heap h' -> Q none { s with heap:=h' }):wpAny (model prog w) A (pyNext (.ref it)) Q E s:=by
  refine si_call hi.typeIs (si_open hi ha hf ?_)
  obtain ⟨o,ho,hc,hd⟩:=hi
  show wpAny (model prog w) A.in1 (do
        match ← setNext a ((slot:Int)).toNat i ep with
        | some (x,next) =>
          setField (.ref it) 0 (rawInt next)
          setField (.ref it) 1 (rawInt ((i:Int) + 1))
          ret x
        | none => setField (.ref it) 2 .none; raiseNew (← newExc (.type "StopIteration") [])) _ _ s
  rw [Int.toNat_natCast]
  refine wpAny_bind (hn _ _ _ ?_)
  refine wpAny_bind (wpAny_setField ho hd (by simp) ?_)
  refine si_raise (by simpa using hh) fun e h' k hT => ?_
  refine si_stop hT (h h' fun b o' hb e' => k b o' ?_)
  exact (Heap.get?_update_other _ _ (Ne.symm hb)).trans e'
end
end L2
namespace L2
open PySem
section
variable {prog:Program} {w:World} {A:Around} {E:Value -> Shared -> Prop} {s:Shared} {a it:Addr} {es:Array (Int×Value)} {ep i n:Nat} {t:SetTable}
theorem byText_is {Q:Bool -> Shared -> Prop} (h:Q (w.params.followText "set-order") s):wpAny (model prog w) A setsByText Q E s:=by
  unfold setsByText
  exact wpAny_bind (wpAny_askSetting (wpAny_pure h))
theorem next_text {slot:Nat} (ht:w.params.followText "set-order" = true) (ha:s.heap.get? a = some (setObj es ep t)) (hf:t.fits es.size = true) {Q:Option (Value×Nat) -> Shared -> Prop}
    (h:Q (((pickOrder (w.params.setOrder a ep) es)[i]?).map fun e => (e.2,slot)) s):wpAny (model prog w) A (setNext a slot i ep) Q E s:=by
  unfold setNext
  refine wpAny_bind (wpAny_setState_of ha rfl hf ?_)
  dsimp only
  refine wpAny_bind (byText_is ?_)
  rw [ht,if_pos rfl,if_neg (by simp)]
  unfold setWalk
  refine wpAny_bind (wpAny_bind (wpAny_setState_of ha rfl hf ?_))
  dsimp only
  refine wpAny_bind (byText_is ?_)
  rw [ht,if_pos rfl]
  exact wpAny_bind (wpAny_askSetting (wpAny_pure (wpAny_pure h)))
theorem next_few {slot:Nat} (ht:w.params.followText "set-order" = false) (hl:t.led = true) (hd:(!t.plain && decide (es.size > 1)) = false) (ha:s.heap.get? a = some (setObj es ep t)) (hf:t.fits es.size = true) {Q:Option (Value×Nat) -> Shared -> Prop}
    (h:Q (match es[SetTable.below t.place slot]?,t.place[SetTable.below t.place slot]? with | some (_,x),some j => some (x,j + 1) | _,_ => none) s):wpAny (model prog w) A (setNext a slot i ep) Q E s:=by
  unfold setNext
  refine wpAny_bind (wpAny_setState_of ha rfl hf ?_)
  dsimp only
  refine wpAny_bind (byText_is ?_)
  rw [ht,if_neg Bool.false_ne_true]
  show wpAny (model prog w) A (if (!t.plain && decide (es.size > 1)) = true then _ else _) Q E s
  rw [if_neg (by rw [hd]; exact Bool.false_ne_true)]
  refine wpAny_bind ?_
  show wpAny (model prog w) A (if (!t.led && !es.isEmpty) = true then unsupported "set:maker-not-led" else pure ()) _ _ s
  rw [if_neg (by rw [hl]; simp)]
  exact wpAny_pure (wpAny_pure h)
structure SetWalk (prog:Program) (w:World) (A:Around) (it:Addr) (fp:List Addr) (ord:List Value) (St:Nat -> Heap -> Prop):Prop where
  ws:Walks prog w A it fp [it] ord.length (fun i v => ord[i]? = some v) St
  ty:∀ i (s:Shared),St i s.heap -> s.TypeIs (.ref it) "set_iterator"
theorem si_self {first:Value} {Q:Value -> Shared -> Prop} (hi:IsSI s.heap it first i a n ep) (h:Q (.ref it) s) (slot:Slot "set_iterator" "__iter__" "set_iterator.__iter__") (entry:entryFor table "set_iterator.__iter__" = some Builtin.«dict_keyiterator.__iter__»)
    (args:argsOk "set_iterator.__iter__" ⟨[.ref it],[]⟩):wpAny (model prog w) A (pyIter (.ref it)) Q E s:=by
  refine wpAny_pyIter_slot hi.typeIs slot (wpAny_call_entry slot hi.typeIs entry ?_ args)
  show wpAny _ _ (ret (.ref it)) _ _ s
  exact wpAny_pure ⟨_,rfl,"set_iterator",_,hi.typeIs,slot_si_next.lookup,h⟩
end
theorem slot_si_iter:Slot "set_iterator" "__iter__" "set_iterator.__iter__" :=
  .of (owner:="set_iterator") (n:="__iter__") (by rw [typeLookup_type,builtinLookup_eq_fast]; kernel_rfl) (by decide +kernel) (by decide +kernel) (by decide +kernel) (by first | exact .inl (by decide +kernel) | exact .inr (by decide +kernel)) (by rw [isSubtype_type]; kernel_rfl)
theorem entry_si_iter:entryFor table "set_iterator.__iter__" = some Builtin.«dict_keyiterator.__iter__»:=entryFor_alias (id':="dict_keyiterator.__iter__") (by kernel_rfl) rfl (by decide +kernel) (by kernel_rfl)
theorem args_si_iter (a:Value):argsOk "set_iterator.__iter__" ⟨[a],[]⟩:=by
  unfold argsOk
  kernel_rfl
section
variable {prog:Program} {w:World} {A:Around} {E:Value -> Shared -> Prop} {s:Shared} {a it:Addr} {es:Array (Int×Value)} {ep i n:Nat} {t:SetTable}
theorem IsSI.at {h h':Heap} {first:Value} (x:IsSI h it first i a n ep) (e:∀ o,h.get? it = some o -> h'.get? it = some o):IsSI h' it first i a n ep:=let ⟨o,ho,r⟩:=x; ⟨o,e _ ho,r⟩
theorem walk_text (hh:A.handled = none) (hne:a ≠ it) (ht:w.params.followText "set-order" = true) (hf:t.fits es.size = true) :
    SetWalk prog w A it [it,a] ((pickOrder (w.params.setOrder a ep) es).toList.map (·.2)) (fun i h => IsSI h it (.int (0:Nat) 0) i a es.size ep /\ h.get? a = some (setObj es ep t)) where
  ws:={
    sub:=fun b hb => by simp at hb; simp [hb]
    frame:=fun _ _ _ st hk => ⟨st.1.at fun o e => hk it (by simp) o e,hk a (by simp) _ st.2⟩
    item:=fun i s Q E hi st hQ => by
      have hlt:i < (pickOrder (w.params.setOrder a ep) es).size:=by simpa using hi
      refine si_next_s (slot:=0) (next:=0) (x:=((pickOrder (w.params.setOrder a ep) es)[i]).2) st.1 st.2 hf (fun A E Q q => next_text ht st.2 hf (by simpa [hlt] using q)) fun h' hit sb => ?_
      exact hQ _ h' s.toks (by simp [hlt]) ⟨hit,(sb.2 a hne).trans st.2⟩ fun b o hb e => (sb.2 b (by simpa using hb)).trans e
    done:=fun s Q E st hQ => by
      refine si_end_s (slot:=0) hh st.1 st.2 hf (fun A E Q q => next_text ht st.2 hf (by simpa using q)) fun h' eb => ?_
      exact hQ h' s.toks fun b o hb e => eb b o (by simpa using hb) e
    self:=fun _ _ _ _ st hQ => si_self st.1 hQ slot_si_iter entry_si_iter (args_si_iter _) }
  ty:=fun _ _ st => st.1.typeIs
theorem walk_few (hh:A.handled = none) (hne:a ≠ it) (ht:w.params.followText "set-order" = false) (hl:t.led = true) (hd:(!t.plain && decide (es.size > 1)) = false) (hr:Ris t.place) (hf:t.fits es.size = true) :
    SetWalk prog w A it [it,a] (es.toList.map (·.2)) (fun i h => (∃ slot:Nat,IsSI h it (.int slot 0) i a es.size ep /\ SetTable.below t.place slot = i) /\ h.get? a = some (setObj es ep t)) where
  ws:={
    sub:=fun b hb => by simp at hb; simp [hb]
    frame:=fun _ _ _ ⟨⟨sl,st,r⟩,st2⟩ hk => ⟨⟨sl,st.at fun o e => hk it (by simp) o e,r⟩,hk a (by simp) _ st2⟩
    item:=fun i s Q E hi st hQ => by
      obtain ⟨⟨sl,st1,z1⟩,st2⟩:=st
      have hlt:i < es.size:=by simpa using hi
      have hps:i < t.place.size:=by
        have:=hf
        unfold SetTable.fits at this
        simp at this
        omega
      refine si_next_s (slot:=sl) (next:=t.place[i] + 1) (x:=es[i].2) st1 st2 hf (fun A E Q q => next_few ht hl hd st2 hf ?_) fun h' hit sb => ?_
      . rw [z1,Array.getElem?_eq_getElem hlt,Array.getElem?_eq_getElem hps]
        exact q
      . exact hQ _ h' s.toks (by simp [hlt]) ⟨⟨_,hit,below_next hr hps⟩,(sb.2 a hne).trans st2⟩ fun b o hb e => (sb.2 b (by simpa using hb)).trans e
    done:=fun s Q E st hQ => by
      obtain ⟨⟨sl,st1,z1⟩,st2⟩:=st
      rw [List.length_map,Array.length_toList] at st1 z1
      refine si_end_s (slot:=sl) hh st1 st2 hf (fun A E Q q => next_few ht hl hd st2 hf ?_) fun h' eb => ?_
      . rw [z1,Array.getElem?_eq_none (Nat.le_refl _)]
        exact q
      . exact hQ h' s.toks fun b o hb e => eb b o (by simpa using hb) e
    self:=fun _ _ _ _ ⟨⟨_,st,_⟩,_⟩ hQ => si_self st hQ slot_si_iter entry_si_iter (args_si_iter _) }
  ty:=fun _ _ ⟨⟨_,st,_⟩,_⟩ => st.typeIs
theorem walk_drawn {tp:Addr} {places:List Nat} (hh:A.handled = none) (hne:a ≠ it) (hnt:tp ≠ it) (hf:t.fits es.size = true) (hp:∀ p ∈ places,p < es.size) :
    SetWalk prog w A it [it,a,tp] (places.map fun p => ((es[p]?).getD (0,.none)).2) (fun i h => IsSI h it (.ref tp) i a es.size ep /\ h.get? a = some (setObj es ep t) /\ ∃ o k,h.get? tp = some o /\ o.data = .seq (places.map fun j => rawInt (j:Nat)).toArray k) where
  ws:={
    sub:=fun b hb => by simp at hb; simp [hb]
    frame:=fun _ _ _ ⟨st,st2,o,k,e,d⟩ hk => ⟨st.at fun o e => hk it (by simp) o e,hk a (by simp) _ st2,o,k,hk tp (by simp) _ e,d⟩
    item:=fun i s Q E hi st hQ => by
      have hlt:i < places.length:=by simpa using hi
      have hps:=hp _ (List.getElem_mem hlt)
      obtain ⟨st1,st2,o,k,e,d⟩:=st
      refine si_next_d (p:=places[i]) (x:=es[places[i]]) st1 st2 hf hne.symm hnt.symm ⟨o,k,e,d⟩ (by simp [hlt]) (by simp [hps]) fun h' hit sb => ?_
      exact hQ _ h' s.toks (by simp [hlt,hps]) ⟨hit,(sb.2 a hne).trans st2,o,k,(sb.2 tp hnt).trans e,d⟩ fun b o hb e => (sb.2 b (by simpa using hb)).trans e
    done:=fun s Q E st hQ => by
      obtain ⟨st1,st2,o,k,e,d⟩:=st
      rw [List.length_map] at st1
      refine si_end_d hh st1 st2 hf ⟨o,k,e,d⟩ (by simp) fun h' eb => ?_
      exact hQ h' s.toks fun b o hb e => eb b o (by simpa using hb) e
    self:=fun _ _ _ _ st hQ => si_self st.1 hQ slot_si_iter entry_si_iter (args_si_iter _) }
  ty:=fun _ _ st => st.1.typeIs
end
end L2
namespace L2
open PySem
theorem map_range_get {α:Type} (es:Array α) (d:α):(List.range es.size).map (fun p => (es[p]?).getD d) = es.toList:=by
  apply List.ext_getElem
  . simp
  . intro i h1 h2
    simp at h1 h2 ⊢
    simp [h1]
section
variable {prog:Program} {w:World} {A A₂:Around} {E:Value -> Shared -> Prop} {s:Shared} {a it:Addr} {es:Array (Int×Value)} {ep i n:Nat} {t:SetTable}
theorem setObj_ty (ha:s.heap.get? a = some (setObj es ep t)):s.TypeIs (.ref a) "set":=⟨_,ha,rfl⟩
theorem iter_set (hh:A₂.handled = none) (ha:s.heap.get? a = some (setObj es ep t)) (hf:t.fits es.size = true) (ht:Tb w t es.size) (hb:es.size <= sizeLine) {Q:Value -> Shared -> Prop}
    (h:∀ it h' d fp ord St,SetWalk prog w A₂ it fp ord St -> ord.Perm (es.toList.map (·.2)) -> St 0 h' -> (∀ b o,s.heap.get? b = some o -> h'.get? b = some o) -> (∀ b ∈ fp,(b = a ∨ s.heap.objs.size <= b) /\ b < h'.objs.size) -> it ∈ fp -> it ≠ a ->
      Q (.ref it) { s with heap:=h',drawn:=d }):wpAny (model prog w) A (pyIter (.ref a)) Q E s:=by
  have hT:=setObj_ty ha
  have hlt:a < s.heap.objs.size:=Heap.lt_size ha
  refine wpAny_pyIter_slot hT F.slot_set_iter (wpAny_call_entry F.slot_set_iter hT entry_s_iter ?_ (F.args_set_iter_1 _))
  unfold Builtin.«frozenset.__iter__»
  refine wpAny_bind (m:=Builtin.Frozenset.slot0 _ _) (wpAny_pure ?_)
  refine wpAny_bind ?_
  show wpAny _ _ (do return (← setEntries a).size) _ _ s
  refine wpAny_bind (wpAny_setEntries_of ha rfl hf (wpAny_pure ?_))
  refine wpAny_bind ?_
  unfold setDrawn
  refine wpAny_bind (wpAny_setState_of ha rfl hf ?_)
  dsimp only
  refine wpAny_bind (byText_is (wpAny_pure ?_))
  have fin:∀ (first:Value) (s1:Shared),s1.heap.get? a = some (setObj es ep t) -> (∀ (h2:Q (.ref s1.heap.objs.size) { s1 with heap:=s1.heap.push { cls:=.type "set_iterator",data:=.fields #[first,.int (0:Nat) 0,.ref a,.int es.size 0,.int ep 0] } }),
      wpAny (model prog w) A.in1 (do ret (← newFields "set_iterator" [first,rawInt 0,.ref a,rawInt es.size,rawInt (← setEpoch a)])) (fun fin s' => ∃ v,fin = .done (.ret v) /\ ∃ T' r,s'.TypeIs v T' /\ typeLookup (.type T') "__next__" = pure (some r) /\ Q v s') E s1):=fun first s1 h1 h2 => by
    refine wpAny_bind (wpAny_setEpoch_of h1 rfl hf ?_)
    refine wpAny_bind (wpAny_newObj_type (wpAny_pure ⟨_,rfl,"set_iterator",_,⟨_,Heap.get?_push_size _ rfl,rfl⟩,slot_si_next.lookup,?_⟩))
    exact h2
  by_cases hbt:w.params.followText "set-order" = true
  . rw [hbt,if_neg (by simp)]
    refine wpAny_bind (wpAny_pure (fin _ s ha ?_))
    have W:=walk_text (prog:=prog) (w:=w) (A:=A₂) (a:=a) (it:=s.heap.objs.size) (es:=es) (ep:=ep) (t:=t) hh (Nat.ne_of_lt hlt) hbt hf
    refine h _ (s.heap.push _) s.drawn _ _ _ W ?_ ⟨⟨_,Heap.get?_push_size _ rfl,rfl,rfl⟩,Heap.get?_push_of_some _ ha⟩ (fun b o e => Heap.get?_push_of_some _ e) (fun b hb => ?_) (by simp) (Nat.ne_of_gt hlt)
    . exact (pick_perm _ es).map _
    . rw [Heap.size_push]
      simp at hb
      rcases hb with rfl | rfl
      . exact ⟨.inr (Nat.le_refl _),Nat.lt_succ_self _⟩
      . exact ⟨.inl rfl,Nat.lt_succ_of_lt hlt⟩
  . have hbf:w.params.followText "set-order" = false:=by simpa using hbt
    rw [hbf]
    have hled:t.led = true:=by rw [ht.1,hbf]; rfl
    show wpAny _ _ (if (!false && (!t.plain && decide (es.size > 1))) = true then _ else _) _ _ s
    by_cases h1:(!t.plain && decide (es.size > 1)) = false
    . have e0:(!false && (!t.plain && decide (es.size > 1))) = false:=by rw [h1]; rfl
      rw [if_neg (by rw [e0]; exact Bool.false_ne_true)]
      refine wpAny_bind (wpAny_pure (fin _ s ha ?_))
      have W:=walk_few (prog:=prog) (w:=w) (A:=A₂) (a:=a) (it:=s.heap.objs.size) (es:=es) (ep:=ep) (t:=t) hh (Nat.ne_of_lt hlt) hbf hled h1 ht.2.1 hf
      refine h _ (s.heap.push _) s.drawn _ _ _ W (.refl _) ⟨⟨0,⟨_,Heap.get?_push_size _ rfl,rfl,rfl⟩,below_zero ht.2.1⟩,Heap.get?_push_of_some _ ha⟩ (fun b o e => Heap.get?_push_of_some _ e) (fun b hb => ?_) (by simp) (Nat.ne_of_gt hlt)
      rw [Heap.size_push]
      simp at hb
      rcases hb with rfl | rfl
      . exact ⟨.inr (Nat.le_refl _),Nat.lt_succ_self _⟩
      . exact ⟨.inl rfl,Nat.lt_succ_of_lt hlt⟩
    . have e0:(!false && (!t.plain && decide (es.size > 1))) = true:=by rw [Bool.not_false,Bool.true_and]; simpa using h1
      rw [if_pos e0]
      refine wpAny_bind (order_any es.size (List.range es.size) s _ (by simp) fun ys d hp => ?_)
      unfold newTuple
      refine wpAny_bind (wpAny_newObj_type ?_ ?hs)
      case hs =>
        show (List.map (fun (i:Nat) => rawInt i) ys).toArray.size <= sizeLine
        have:=hp.length_eq
        simp at this ⊢
        omega
      refine fin (.ref s.heap.objs.size) _ (Heap.get?_push_of_some _ ha) ?_
      have hys:∀ p ∈ ys,p < es.size:=fun p hm => by simpa using hp.mem_iff.mp hm
      have W:=walk_drawn (prog:=prog) (w:=w) (A:=A₂) (a:=a) (it:=(s.heap.push { cls:=.type "tuple",data:=.seq (List.map (fun (i:Nat) => rawInt i) ys).toArray }).objs.size) (tp:=s.heap.objs.size) (es:=es) (ep:=ep) (t:=t) (places:=ys) hh
        (by rw [Heap.size_push]; exact Nat.ne_of_lt (Nat.lt_succ_of_lt hlt)) (by rw [Heap.size_push]; exact Nat.ne_of_lt (Nat.lt_succ_self _)) hf hys
      refine h _ _ d _ _ _ W ?_ ⟨⟨_,Heap.get?_push_size _ rfl,rfl,rfl⟩,Heap.get?_push_of_some _ (Heap.get?_push_of_some _ ha),_,0,Heap.get?_push_of_some _ (Heap.get?_push_size _ rfl),rfl⟩ (fun b o e => Heap.get?_push_of_some _ (Heap.get?_push_of_some _ e)) (fun b hb => ?_) (by simp) (by rw [Heap.size_push]; exact Nat.ne_of_gt (Nat.lt_succ_of_lt hlt))
      . have q:=hp.map (fun p => ((es[p]?).getD (0,.none)).2)
        have e1:(List.range es.size).map (fun p => ((es[p]?).getD (0,.none)).2) = es.toList.map (·.2):=by
          have:=congrArg (List.map (·.2)) (map_range_get es (0,Value.none))
          rw [List.map_map] at this
          exact this
        rw [e1] at q
        exact q
      . rw [Heap.size_push,Heap.size_push]
        simp at hb
        rcases hb with rfl | rfl | rfl
        . exact ⟨.inr (Nat.le_succ _),Nat.lt_succ_self _⟩
        . exact ⟨.inl rfl,Nat.lt_succ_of_lt (Nat.lt_succ_of_lt hlt)⟩
        . exact ⟨.inr (Nat.le_refl _),Nat.lt_succ_of_lt (Nat.lt_succ_self _)⟩
end
end L2
namespace L2
open PySem
theorem split_s_len:splitId "set.__len__" = some ("set","__len__"):=by kernel_rfl
theorem sub_s_s:isSubtype (.type "set") (.type "set") = pure true:=by rw [isSubtype_type]; kernel_rfl
section
variable {prog:Program} {w:World} {A A₂:Around} {E:Value -> Shared -> Prop} {s:Shared} {a it:Addr} {es:Array (Int×Value)} {ep i n:Nat} {t:SetTable}
theorem hint_set {Q:Bool -> Shared -> Prop} (ha:s.heap.get? a = some (setObj es ep t)) (h:Q false s):wpAny (model prog w) A (Builtin.List.listLengthHint (.ref a)) Q E s:=by
  unfold Builtin.List.listLengthHint
  have hT:=setObj_ty ha
  refine wpAny_bind (wpAny_specialOf hT F.slot_set_len.lookup ?_)
  dsimp only
  rw [split_s_len]
  dsimp only
  refine wpAny_bind (wpAny_isInstance hT sub_s_s ?_)
  rw [if_neg (by simp)]
  show wpAny (model prog w) A (if true = true then _ else _) Q E s
  rw [if_pos rfl]
  refine wpAny_bind (wpAny_typeOf hT ?_)
  exact wpAny_pure h
theorem collect_set {Q:List Value -> Shared -> Prop} (hh:A.handled = none) (ha:s.heap.get? a = some (setObj es ep t)) (hf:t.fits es.size = true) (ht:Tb w t es.size) (hb:es.size <= sizeLine)
    (h:∀ vs h' d tk,vs.Perm (es.toList.map (·.2)) -> (∀ b o,s.heap.get? b = some o -> h'.get? b = some o) -> s.heap.objs.size <= h'.objs.size -> Q vs { s with heap:=h',drawn:=d,toks:=tk }):wpAny (model prog w) A (collect (.ref a)) Q E s:=by
  have hlt:a < s.heap.objs.size:=Heap.lt_size ha
  unfold collect
  refine wpAny_bind (wpAny_runValue (codeAny_builtin F.entry_proto_collect ?_))
  rw [Around.under_plainId F.plain_proto_collect _]
  show wpAny _ A.in1 (newList [] >>= fun l => again (.builtin "list.__iadd__" ⟨[l,.ref a],[]⟩)) _ _ s
  refine wpAny_bind (wpAny_newObj_type ?_)
  refine wpAny_pure ⟨plainId_quiet F.plain_list_iadd _,codeAny_builtin F.entry_list_iadd ?_⟩
  rw [Around.under_plainId F.plain_list_iadd _]
  generalize hN:s.heap.objs.size = S at *
  have g0:(s.heap.push { cls:=.type "list",data:=.seq ([]:List Value).toArray }).get? S = some { cls:=.type "list",data:=.seq ([]:List Value).toArray }:=hN ▸ Heap.get?_push_size _ rfl
  have kp0:∀ b o,s.heap.get? b = some o -> (s.heap.push { cls:=.type "list",data:=.seq ([]:List Value).toArray }).get? b = some o:=fun b o e => Heap.get?_push_of_some _ e
  have z0:(s.heap.push { cls:=.type "list",data:=.seq ([]:List Value).toArray }).objs.size = S + 1:=by rw [Heap.size_push,hN]
  generalize s.heap.push { cls:=.type "list",data:=.seq ([]:List Value).toArray } = h0 at g0 kp0 z0 ⊢
  show wpAny _ A.in1 (Builtin.List.listExtendWith (.ref S) (.ref a) (.ref S)) _ _ _
  unfold Builtin.List.listExtendWith
  have hT0:Shared.TypeIs { s with heap:=h0 } (.ref a) "set":=⟨_,kp0 _ _ ha,rfl⟩
  refine wpAny_bind (wpAny_typeOf hT0 ?_)
  have h1:Builtin.List.listSameRef (.ref S) (.ref a) = false:=by
    simp [Builtin.List.listSameRef]
    exact Nat.ne_of_gt hlt
  have h2:(Value.type "set" == Value.type "list") = false:=by decide
  have h3:(Value.type "set" == Value.type "tuple") = false:=by decide
  simp only [h1,h2,h3,Bool.or_false,Bool.false_eq_true,if_false]
  refine wpAny_bind (iter_set (A₂:=A.in1) (by simpa using hh) (show (Shared.heap { s with heap:=h0 }).get? a = _ from kp0 _ _ ha) hf ht hb fun it h' d fp ord St W hp st kp fpo hit hia => ?_)
  have hz:ord.length = es.size:=by
    have:=hp.length_eq
    simpa using this
  have ha':h'.get? a = some (setObj es ep t):=kp _ _ (kp0 _ _ ha)
  have gS:h'.get? S = some { cls:=.type "list",data:=.seq ([]:List Value).toArray }:=kp _ _ g0
  have hSf:S ∉ fp:=fun hm => by
    rcases (fpo S hm).1 with e | e
    . exact Nat.ne_of_gt hlt e
    . have e:S + 1 <= S:=z0 ▸ e
      exact Nat.not_succ_le_self _ e
  refine wpAny_bind (wpAny_holding (hint_set ha' ?_))
  show wpAny _ A.in1 (if (false || _) = true then _ else _) _ _ _
  rw [if_pos (by first | rfl | decide)]
  refine wpAny_bind (wpAny_rule ?_)
  refine wpAny_bind ?_
  show wpAny _ A.in1 (updateSeq S (·.push .none) >>= fun _ => updateSeq S (·.pop)) _ _ _
  refine wpAny_bind (wpAny_updateSeq gS rfl ?_)
  have gS2:=Heap.get?_update_self (Obj.mapSeq (·.push Value.none)) gS rfl
  refine wpAny_updateSeq gS2 rfl ?_
  have gS3:=Heap.get?_update_self (Obj.mapSeq (·.pop)) gS2 rfl
  have oth:∀ b o,b ≠ S -> h'.get? b = some o -> ((h'.update S (Obj.mapSeq (·.push Value.none))).update S (Obj.mapSeq (·.pop))).get? b = some o :=
    fun b o hb e => (Heap.get?_update_other _ _ (Ne.symm hb)).trans ((Heap.get?_update_other _ _ (Ne.symm hb)).trans e)
  generalize (h'.update S (Obj.mapSeq (·.push Value.none))).update S (Obj.mapSeq (·.pop)) = h3 at gS3 oth ⊢
  refine wpAny_pure ⟨plainId_quiet F.plain_extend_loop _,codeAny_extend_loopS W.ws.toS (by omega) S hSf _ ord.length 0 _ _ _ rfl (Nat.zero_le _)
    (W.ws.frame 0 h' h3 st fun b hb o e => oth b o (fun z => hSf (z ▸ hb)) e) gS3 (ItemsOf.nil _) fun s' acc' c' hm hS' hacc => ?_⟩
  show wpAny _ A (load S >>= _) _ _ s'
  refine wpAny_bind (wpAny_load hS' ?_)
  refine wpAny_pure ?_
  obtain ⟨h4,g4,d4,t4,o4⟩:=s'
  have eg:g4 = s.gens:=hm.gens
  have ed:d4 = d:=hm.drawn
  have eo:o4 = s.os:=hm.os
  subst eg ed eo
  have ev:acc'.toList = ord:=by
    apply List.ext_getElem?
    intro j
    by_cases hj:j < acc'.size
    . have:=hacc.2 j acc'[j] (by simp [hj])
      rw [this]
      simp [hj]
    . have e1:acc'.toList[j]? = none:=by simp; omega
      have e2:ord[j]? = none:=by
        have:=hacc.1
        simp
        omega
      rw [e1,e2]
  rw [ev]
  refine h ord h4 d4 t4 hp (fun b o e => ?_) (Nat.le_of_lt (Heap.lt_size hS'))
  have hbS:b ≠ S:=Nat.ne_of_lt (hN ▸ Heap.lt_size e)
  have hbi:b ≠ it:=fun z => by
    subst z
    rcases (fpo b hit).1 with e2 | e2
    . exact hia e2
    . have e2:S + 1 <= b:=z0 ▸ e2
      have e3:b < S:=hN ▸ Heap.lt_size e
      exact Nat.lt_irrefl _ (Nat.lt_of_lt_of_le e3 (Nat.le_of_succ_le e2))
  exact hm.heap b o (by simp [hbS,hbi]) (oth b o hbS (kp _ _ (kp0 _ _ e)))
end
end L2
namespace L2
open PySem
noncomputable def txKind (prog:Program) (w:World):KeyKind prog w Str where
  is:=Value.isStrOf
  hash:=hashStr w
  inj:=Value.isStrOf_inj
  byValue:=fun k v h => by obtain ⟨t,rfl⟩:=Value.isStrOf_shape h; rfl
  pyHash:=fun hv h => by obtain ⟨t,rfl⟩:=Value.isStrOf_shape hv; exact wpAny_pyHash_str h
  eqBool:=fun hu hv h => by
    obtain ⟨t,rfl⟩:=Value.isStrOf_shape hu
    obtain ⟨u,rfl⟩:=Value.isStrOf_shape hv
    exact wpAny_eqBool_str h
  «strs»:=fun k x t v h => by
    obtain ⟨u,e⟩:=Value.isStrOf_shape h
    cases e
    cases v <;> rfl
noncomputable def txOf:Value -> Str
  | .str x _ => x
  | _ => ⟨#[]⟩
noncomputable def TxSet (w:World) (h:Heap) (a:Addr) (xs:List Str):Prop :=
  ∃ es ep t,h.get? a = some (setObj es ep t) /\ (∀ e ∈ es.toList,∃ y u,e = (hashStr w y,Value.str y u)) /\ es.toList.map (fun e => txOf e.2) = xs /\ xs.Nodup /\ es.size < scanBound /\ t.fits es.size = true /\ Tb w t es.size
theorem TxSet.at {w:World} {h h':Heap} {a:Addr} {xs:List Str} (x:TxSet w h a xs) (e:∀ o,h.get? a = some o -> h'.get? a = some o):TxSet w h' a xs :=
  let ⟨es,ep,t,g,r⟩:=x; ⟨es,ep,t,e _ g,r⟩
section
variable {prog:Program} {w:World} {A:Around} {E:Value -> Shared -> Prop} {s:Shared} {a:Addr}
theorem add_tx {xs:List Str} {y:Str} {tk:Tok} {Q:Bool -> Shared -> Prop} (hx:TxSet w s.heap a xs) (hb:xs.length + 1 < scanBound)
    (h1:y ∈ xs -> Q false s) (h2:y ∉ xs -> ∀ h' xs',Heap.SameBut a s.heap h' -> xs'.Perm (xs ++ [y]) -> TxSet w h' a xs' -> Q true { s with heap:=h' }):wpAny (model prog w) A (setAddHashed a (.str y tk) (hashStr w y)) Q E s:=by
  obtain ⟨es,ep,t,g,hel,hxs,hnd,hsz,hf,ht⟩:=hx
  have hl:xs.length = es.size:=by rw [← hxs]; simp
  have hE:ElemsOf (txKind prog w) es.toList:=fun e he => by
    obtain ⟨z,u,rfl⟩:=hel e he
    exact ⟨⟨z,by show Value.isStrOf z (.str z u) = true; simp [Value.isStrOf],rfl⟩,rfl⟩
  have his:∀ e ∈ es.toList,((txKind prog w).is y e.2 = true ↔ txOf e.2 = y):=fun e he => by
    obtain ⟨z,u,rfl⟩:=hel e he
    constructor
    . intro q
      obtain ⟨u',q'⟩:=Value.isStrOf_shape (show Value.isStrOf y (.str z u) = true from q)
      cases q'
      rfl
    . intro q
      have q:z = y:=q
      subst q
      show Value.isStrOf z (.str z u) = true
      simp [Value.isStrOf]
  refine add_text (knd:=txKind prog w) (k:=y) rfl (by show Value.isStrOf y (.str y tk) = true; simp [Value.isStrOf]) g ⟨rfl,rfl,rfl⟩ rfl hE (by omega) hf ht (fun ⟨e,he,q⟩ => h1 ?_) fun hno h' es' t' ep' sb g' hp hf' ht' => h2 ?_ h' (es'.toList.map fun e => txOf e.2) sb ?_ ⟨es',ep',t',g',?_,rfl,?_,?_,hf',ht'⟩
  . rw [← hxs]
    exact List.mem_map.mpr ⟨e,he,(his e he).mp q⟩
  . intro hm
    rw [← hxs] at hm
    obtain ⟨e,he,q⟩:=List.mem_map.mp hm
    have:=hno e he
    rw [(his e he).mpr q] at this
    cases this
  . have q:=hp.map fun e => txOf e.2
    rw [List.map_append,hxs] at q
    exact q
  . intro e he
    rcases List.mem_append.mp (hp.mem_iff.mp he) with q | q
    . exact hel e q
    . rw [List.mem_singleton] at q
      exact ⟨y,tk,q⟩
  . have q:=hp.map fun e => txOf e.2
    rw [List.map_append,hxs] at q
    refine q.nodup_iff.mpr (List.nodup_append.mpr ⟨hnd,by simp,fun z hz z' hz' => ?_⟩)
    have hz':z' = y:=by simpa [txOf] using hz'
    subst hz'
    rintro rfl
    rw [← hxs] at hz
    obtain ⟨e,he,q⟩:=List.mem_map.mp hz
    have:=hno e he
    rw [(his e he).mpr q] at this
    cases this
  . have:=hp.length_eq
    simp at this
    omega
end
section
variable {prog:Program} {w:World} {A:Around} {R:Result -> Shared -> Prop} {I:Addr} {fp wr:List Addr} {G:Array GenState -> Array GenState -> Prop} {n:Nat} {P:Nat -> Value -> Prop} {St:Nat -> Shared -> Prop}
theorem entry_su_loop:entryFor table "set.update.loop" = some Builtin.«set.update.loop»:=entryFor_of_tree (by kernel_rfl)
theorem plain_su_loop:plainId "set.update.loop" = true:=by decide +kernel
theorem fill_tx (W:WalksS prog w A.in1 I fp wr G n P St) (S:Addr) (hSf:S ∉ fp) (val:Nat -> Str) (hval:∀ i v,P i v -> ∃ t,v = .str (val i) t) (hb:n + 1 < scanBound) :
    ∀ (k i:Nat) (s:Shared) (xs:List Str),n - i = k -> i <= n -> St i s -> TxSet w s.heap S xs -> xs.length <= i -> (∀ z,z ∈ xs ↔ ∃ j,j < i /\ val j = z) ->
      (∀ s' xs',Moved (S :: wr) G s s' -> TxSet w s'.heap S xs' -> (∀ z,z ∈ xs' ↔ ∃ j,j < n /\ val j = z) -> R (.ok (.ret .none)) s') ->
      codeAny (model prog w) A (.builtin "set.update.loop" ⟨[.ref S,.ref I],[]⟩) R s:=by
  have hSw:S ∉ wr:=fun h => hSf (W.sub _ h)
  have sub:∀ b ∈ wr,b ∈ S :: wr:=fun b hb => List.mem_cons_of_mem _ hb
  intro k
  induction k with
  | zero =>
    intro i s xs hk hi hst hS hl hm hR
    have:i = n:=by omega
    subst this
    refine codeAny_builtin entry_su_loop ?_
    rw [Around.under_plainId plain_su_loop _]
    show wpAny _ A.in1 (pyNext (.ref I) >>= _) _ _ s
    refine wpAny_bind (W.done s _ _ hst fun s' mv => wpAny_pure (hR s' xs (mv.mono sub) (hS.at fun o e => mv.heap S _ hSw e) hm))
  | succ k ih =>
    intro i s xs hk hi hst hS hl hm hR
    have hlt:i < n:=by omega
    refine codeAny_builtin entry_su_loop ?_
    rw [Around.under_plainId plain_su_loop _]
    show wpAny _ A.in1 (pyNext (.ref I) >>= _) _ _ s
    refine wpAny_bind (W.item i s _ _ hlt hst fun v s' hP hst' mv => ?_)
    obtain ⟨tk,rfl⟩:=hval i v hP
    have hS':TxSet w s'.heap S xs:=hS.at fun o e => mv.heap S _ hSw e
    show wpAny _ A.in1 (holding [Value.str (val i) tk] (setAdd S (.str (val i) tk)) >>= _) _ _ s'
    refine wpAny_bind (wpAny_holding ?_)
    unfold setAdd
    refine wpAny_holding (wpAny_bind (wpAny_pyHash_str ?_))
    have go:∀ (s2:Shared) (xs2:List Str),Moved (S :: wr) G s s2 -> St (i + 1) s2 -> TxSet w s2.heap S xs2 -> xs2.length <= i + 1 -> (∀ z,z ∈ xs2 ↔ z ∈ xs ∨ z = val i) -> codeAny (model prog w) A (.builtin "set.update.loop" ⟨[.ref S,.ref I],[]⟩) R s2:=fun s2 xs2 mv2 st2 t2 l2 m2 => by
      refine ih (i + 1) s2 xs2 (by omega) (by omega) st2 t2 l2 (fun z => ?_) fun s3 xs3 mv3 t3 m3 => hR s3 xs3 (Moved.trans W.gtrans mv2 mv3) t3 m3
      rw [m2,hm]
      constructor
      . rintro (⟨j,hj,e⟩ | rfl)
        . exact ⟨j,by omega,e⟩
        . exact ⟨i,by omega,rfl⟩
      . rintro ⟨j,hj,e⟩
        by_cases q:j < i
        . exact .inl ⟨j,q,e⟩
        . have:j = i:=by omega
          subst this
          exact .inr e.symm
    refine add_tx (s:={ s' with toks:=s'.toks + 1 }) hS' (by omega) (fun hin => ?_) fun hout h' xs' sb hp ht => ?_
    . refine wpAny_pure ⟨plainId_quiet plain_su_loop _,go _ xs ((mv.mono sub).then_heap (Nat.le_succ _) fun b o _ e => e) ?_ hS' (by omega) fun z => ⟨.inl,fun q => q.elim id fun e => e ▸ hin⟩⟩
      exact W.frame _ s' _ _ hst' (Nat.le_succ _) fun b _ o e => e
    . refine wpAny_pure ⟨plainId_quiet plain_su_loop _,go _ xs' ((mv.mono sub).then_heap (Nat.le_succ _) fun b o hb e => ?_) ?_ ht ?_ fun z => ?_⟩
      . rw [sb.2 b (fun q:b = S => hb (by rw [q]; exact List.mem_cons_self))]; exact e
      . exact W.frame _ s' _ _ hst' (Nat.le_succ _) fun b hb o e => by rw [sb.2 b (fun q:b = S => hSf (by rw [← q]; exact hb))]; exact e
      . have:=hp.length_eq
        simp at this
        omega
      . rw [hp.mem_iff]
        simp
end
end L2
namespace L2
open PySem
section
variable {prog:Program} {w:World} {A:Around} {E:Value -> Shared -> Prop} {s:Shared}
noncomputable abbrev newSetObj (w:World):Obj:=setObj #[] 0 (.fresh 0 0 (!(w.params.followText "set-order")))
theorem set_new1 (a:Value) {Q₁:Value -> Shared -> Prop} (h:Q₁ (.ref s.heap.objs.size) { s with heap:=s.heap.push (newSetObj w) }) :
    codeAny (model prog w) A (.call (.builtin "set.__new__") ⟨[.type "set",a],[]⟩) (wants Q₁ E) s:=by
  refine codeAny_of_tree ?_
  show wpAny _ A.in1 (checkBuiltinCall "set.__new__" ⟨[.type "set",a],[]⟩ >>= fun _ => again (.builtin "set.__new__" ⟨[.type "set",a],[]⟩)) _ _ s
  refine wpAny_bind (wpAny_of_eq (F.newCall_set_1 a) (wpAny_pure ⟨plainId_quiet F.plain_set_new _,codeAny_builtin F.entry_set_new ?_⟩))
  rw [Around.under_plainId F.plain_set_new _]
  unfold Builtin.«set.__new__» Builtin.Frozenset.newClass
  have hsub:=sub_set_self
  obtain ⟨hp,g,d,tk,os⟩:=s
  dsimp only
  wp_walk
  refine wpAny_askSetting (wpAny_pure ?_)
  dsimp only
  simp only [newObj]
  exact wpAny_bind (wpAny_alloc (wpAny_pure (wpAny_pure h)))
theorem txset_new {h:Heap} {a:Addr} (g:h.get? a = some (newSetObj w)):TxSet w h a [] :=
  ⟨#[],0,_,g,fun e he => by simp at he,rfl,List.nodup_nil,by decide,rfl,rfl,List.Pairwise.nil,rfl⟩
set_option maxRecDepth 100000 in
set_option maxHeartbeats 3200000 in
theorem set_texts {l:Addr} {items:Array Value} {xs:List Str} {Q:Value -> Shared -> Prop} (hh:A.handled = none) (hl:s.heap.IsList l items) (hi:∀ (i:Nat) (v:Value),items[i]? = some v -> ∃ t,v = .str (xs.getD i ⟨#[]⟩) t) (hlen:items.size = xs.length) (hb:xs.length + 1 < scanBound)
    (h:∀ h' tk ys,TxSet w h' s.heap.objs.size ys -> (∀ z,z ∈ ys ↔ z ∈ xs) -> (∀ b o,b < s.heap.objs.size -> s.heap.get? b = some o -> h'.get? b = some o) -> Q (.ref s.heap.objs.size) { s with heap:=h',toks:=tk }) :
    wpAny (model prog w) A (call (.type "set") [.ref l]) Q E s:=by
  obtain ⟨c,tl,hmro⟩:=F.called_set.mro
  have hmade:=F.called_set.made
  have hsub:=F.called_set.sub
  refine wpAny_call (codeAny_of_tree ?_)
  show wpAny _ _ (callAny (.type "set") _) _ _ _
  refine wpAny_pure ⟨Code.quiet_builtin _ (by decide +kernel),codeAny_builtin F.entry_type_call ?_⟩
  rw [Around.under_plain (weight_type_call_type "set" [.ref l] []) rfl]
  have h1:=F.called_set.notType
  have h2:=F.called_set.canCreate
  have hct:=F.typeCall_set_1 (.ref l)
  repeat (any_goals (first | assumption | wp_step))
  refine codeAny_mono (set_new1 (.ref l) (E:=E) (Q₁:=fun obj s₁ => obj = .ref s.heap.objs.size /\ s₁ = { s with heap:=s.heap.push (newSetObj w) }) ⟨rfl,rfl⟩) fun r s₁ hr => ?_
  cases r with
  | error e => exact hr
  | ok fl =>
    cases fl with
    | ret obj =>
      obtain ⟨rfl,rfl⟩:=hr
      have hS:(s.heap.push (newSetObj w)).get? s.heap.objs.size = some (newSetObj w):=Heap.get?_push_size _ rfl
      have hT:Shared.TypeIs { s with heap:=s.heap.push (newSetObj w) } (.ref s.heap.objs.size) "set":=⟨_,hS,rfl⟩
      have hli:=F.called_set.init.lookup
      have hbi:=F.called_set.init.bind (.ref s.heap.objs.size)
      repeat (any_goals (first | assumption | wp_step))
      refine codeAny_mono (codeAny_call_builtin (R:=wants (fun r s₂ => r = .none /\ ∃ h' tk ys,s₂ = { s with heap:=h',toks:=tk } /\ TxSet w h' s.heap.objs.size ys /\ (∀ z,z ∈ ys ↔ z ∈ xs) /\
          (∀ b o,b < s.heap.objs.size -> s.heap.get? b = some o -> h'.get? b = some o)) E) F.called_set.init.plain F.entry_set_init (check_set_init_1 hT ?_)) fun r₂ s₂ hr₂ => ?_
      . obtain ⟨ol,hol,hcl,nl,hdl⟩:=hl
        obtain ⟨ocls,odict,odata,oslots⟩:=ol
        simp only at hcl hdl
        subst hcl; subst hdl
        have hol':(s.heap.push (newSetObj w)).get? l = some { cls:=.type "list",dict:=odict,data:=.seq items nl,slots:=oslots }:=Heap.get?_push_of_some _ hol
        have hsls:=F.sub_list_set
        have hslf:=F.sub_list_frozenset
        have hne:(Value.type "list" == Value.type "dict") = false:=by decide
        have hl1:(s.heap.push (newSetObj w)).IsList l items:=⟨_,hol',rfl,nl,rfl⟩
        unfold Builtin.«set.__init__» noKeywords Builtin.Frozenset.updateFrom
        generalize hPI:pyIter = PI
        wp_walk
        subst hPI
        refine wpAny_pyIter_list hl1 ?_
        refine wpAny_bind (wpAny_runValue ?_)
        have hlS:l < s.heap.objs.size:=Heap.lt_size hol
        have hh3:A.in1.in1.in1.handled = none:=by simp [hh]
        have zP:(s.heap.push (newSetObj w)).objs.size = s.heap.objs.size + 1:=Heap.size_push ..
        have hneI:l ≠ (s.heap.push (newSetObj w)).objs.size:=by rw [zP]; exact Nat.ne_of_lt (Nat.lt_succ_of_lt hlS)
        have hSf:s.heap.objs.size ∉ [(s.heap.push (newSetObj w)).objs.size,l]:=by
          rw [zP]
          simp only [List.mem_cons,List.not_mem_nil,or_false,not_or]
          exact ⟨Nat.ne_of_lt (Nat.lt_succ_self _),Nat.ne_of_gt hlS⟩
        refine fill_tx ((Walks.list hh3 _ l hneI items).toS) s.heap.objs.size hSf (fun i => xs.getD i ⟨#[]⟩) hi (by rw [hlen]; exact hb) (items.size - 0) 0 _ [] (by omega) (Nat.zero_le _)
          ⟨⟨_,Heap.get?_push_size _ rfl,rfl,rfl⟩,(hl1.push _)⟩ (txset_new (Heap.get?_push_of_some _ hS)) (Nat.le_refl _) (fun z => by simp) fun s' ys hm hS' hmem => ?_
        obtain ⟨h',g',d',tk',os'⟩:=s'
        have eg:g' = s.gens:=hm.gens
        have ed:d' = s.drawn:=hm.drawn
        have eo:os' = s.os:=hm.os
        subst eg ed eo
        refine wpAny_pure ?_
        refine wpAny_pure ⟨rfl,h',tk',ys,rfl,hS',fun z => ?_,fun b o hb e => ?_⟩
        . rw [hmem,hlen]
          constructor
          . rintro ⟨j,hj,rfl⟩
            have:xs.getD j ⟨#[]⟩ = xs[j]:=by simp [List.getD,hj]
            rw [this]
            exact List.getElem_mem hj
          . intro hz
            obtain ⟨j,hj,e⟩:=List.getElem_of_mem hz
            exact ⟨j,hj,by simp [List.getD,hj,e]⟩
        . have hb1:b ≠ s.heap.objs.size:=Nat.ne_of_lt hb
          have hb2:b ≠ (s.heap.push (newSetObj w)).objs.size:=by rw [zP]; exact Nat.ne_of_lt (Nat.lt_succ_of_lt hb)
          exact hm.heap b o (by simp only [List.mem_cons,List.not_mem_nil,or_false,not_or]; exact ⟨hb1,hb2⟩) (Heap.get?_push_of_some _ (Heap.get?_push_of_some _ e))
      . cases r₂ with
        | error e => exact hr₂
        | ok fl₂ =>
          cases fl₂ with
          | ret r =>
            obtain ⟨rfl,h',tk,ys,rfl,q1,q2,q3⟩:=hr₂
            repeat (any_goals (first | assumption | wp_step))
            exact h _ _ _ q1 q2 q3
          | _ => exact hr₂.elim
    | _ => exact hr.elim
end
end L2
namespace L2
open PySem PyProof.Rows
theorem strsAre_of:∀ {vs:List Value} ,(∀ v ∈ vs,∃ y u,v = .str y u) -> StrsAre vs (vs.map txOf)
  | [],_ => .nil
  | v :: vs,h => by
    obtain ⟨y,u,rfl⟩:=h v (List.mem_cons_self ..)
    exact .cons y u (strsAre_of fun x hx => h x (List.mem_cons_of_mem _ hx))
section
variable {prog:Program} {w:World} {A:Around} {E:Value -> Shared -> Prop} {s:Shared}
theorem sorted_col {a:Addr} {xs:List Str} {Q:Value -> Shared -> Prop} (h64:xs.length < 64)
    (hc:∀ (A':Around) (Q':List Value -> Shared -> Prop),A'.handled = A.handled -> (∀ vs h' d tk,(∃ ss,StrsAre vs ss /\ ss.Perm xs) -> (∀ b o,s.heap.get? b = some o -> h'.get? b = some o) -> s.heap.objs.size <= h'.objs.size -> Q' vs { s with heap:=h',drawn:=d,toks:=tk }) -> wpAny (model prog w) A' (collect (.ref a)) Q' E s)
    (h:∀ h' d tk L its ys n,s.heap.objs.size <= L -> StrsAre its ys -> ys.Perm xs -> sortedS ys = true -> h'.get? L = some (seqObj "list" its.toArray n) -> (∀ b o,s.heap.get? b = some o -> h'.get? b = some o) -> Q (.ref L) { s with heap:=h',drawn:=d,toks:=tk }) :
    wpAny (model prog w) A (call (.builtin "sorted") [.ref a]) Q E s:=by
  refine Calls.call_function_entry kind_sorted plain_sorted entry_sorted (args_sorted1 _) ?_
  unfold Builtin.«sorted»
  refine wpAny_bind (m:=checkCount "sorted" 1 1 _) (wpAny_pure ?_)
  refine wpAny_bind (hc _ _ (by simp) fun vs h1 d tk ⟨ss,hS,hp⟩ kp hge => ?_)
  have hv:vs.length = xs.length:=by rw [← hp.length_eq,← hS.strs,List.length_map]
  refine wpAny_bind (wpAny_newList ?_ (by rw [sizeLine_eq]; omega))
  have g0:(h1.push (seqObj "list" vs.toArray 0)).get? h1.objs.size = some (seqObj "list" vs.toArray 0):=Heap.get?_push_size _ rfl
  show wpAny _ _ _ _ _ { s with heap:=h1.push (seqObj "list" vs.toArray 0),drawn:=d,toks:=tk }
  refine wpAny_bind (wpAny_holding (wpAny_call_entry slot_list_sort ⟨_,g0,rfl⟩ entry_list_sort (list_sort_treeK strKind_oneLt g0 hS.keysOf (fun v₁ v₂ rest e => keyKind_strs (by rw [← e]; exact hS)) (by omega) fun st' a1 a2 => ⟨_,rfl,?_⟩) (args_list_sort _)))
  refine wpAny_pure ⟨_,rfl,?_⟩
  obtain ⟨ys,q1,q2,q3⟩:=sorted_out_str hS a1 a2
  obtain ⟨e,he⟩:=sortedHeap_at (vs:=vs) (out:=(arrOf st').map (·.2)) g0
  refine h _ d tk h1.objs.size _ ys e hge q1 (q2.trans hp) q3 (by rw [Array.toArray_toList]; exact he) fun b o eb => ?_
  have hb1:=Heap.lt_size (kp b o eb)
  rw [sortedHeap_old (Nat.ne_of_lt hb1) (by rw [size_push']; exact Nat.lt_succ_of_lt hb1)]
  exact Heap.get?_push_of_some _ (kp b o eb)
theorem sorted_tx {a:Addr} {xs:List Str} {Q:Value -> Shared -> Prop} (hh:A.handled = none) (hx:TxSet w s.heap a xs) (h64:xs.length < 64)
    (h:∀ h' d tk L its ys n,s.heap.objs.size <= L -> StrsAre its ys -> ys.Perm xs -> sortedS ys = true -> h'.get? L = some (seqObj "list" its.toArray n) -> (∀ b o,s.heap.get? b = some o -> h'.get? b = some o) -> Q (.ref L) { s with heap:=h',drawn:=d,toks:=tk }) :
    wpAny (model prog w) A (call (.builtin "sorted") [.ref a]) Q E s:=by
  refine sorted_col h64 (fun A' Q' hA q => ?_) h
  obtain ⟨es,ep,t,g,hel,hxs,hnd,hsz,hf,ht⟩:=hx
  refine collect_set (hA.trans hh) g hf ht (fits_of_scanBound hsz) fun vs h' d tk hp kp hge => q vs h' d tk ⟨_,strsAre_of fun v hv => ?_,?_⟩ kp hge
  . obtain ⟨e,he,rfl⟩:=List.mem_map.mp (hp.mem_iff.mp hv)
    obtain ⟨y,u,rfl⟩:=hel e he
    exact ⟨y,u,rfl⟩
  . have:=hp.map txOf
    rw [List.map_map] at this
    rw [← hxs]
    exact this
end
end L2
namespace L2
open PySem PyProof.Rows
theorem split_d_len:splitId "dict.__len__" = some ("dict","__len__"):=by kernel_rfl
theorem sub_d_d:isSubtype (.type "dict") (.type "dict") = pure true:=by rw [isSubtype_type]; kernel_rfl
section
variable {prog:Program} {w:World} {K:Type} [DecidableEq K] {knd:KeyKind prog w K} {A A₂:Around} {E:Value -> Shared -> Prop} {s:Shared} {a it:Addr} {kvs:List (K×Value)} {ep:Nat}
theorem hint_dict {Q:Bool -> Shared -> Prop} (hT:s.TypeIs (.ref a) "dict") (h:Q false s):wpAny (model prog w) A (Builtin.List.listLengthHint (.ref a)) Q E s:=by
  unfold Builtin.List.listLengthHint
  refine wpAny_bind (wpAny_specialOf hT F.slot_dict_len.lookup ?_)
  dsimp only
  rw [split_d_len]
  dsimp only
  refine wpAny_bind (wpAny_isInstance hT sub_d_d ?_)
  rw [if_neg (by simp)]
  show wpAny (model prog w) A (if true = true then _ else _) Q E s
  rw [if_pos rfl]
  refine wpAny_bind (wpAny_typeOf hT ?_)
  exact wpAny_pure h
theorem collect_keys {Q:List Value -> Shared -> Prop} (hh:A.handled = none) (hd:(a == sysModules) = false) (hm:s.heap.DictAt knd a kvs ep) (hb:kvs.length <= sizeLine)
    (h:∀ vs h' tk,vs.length = kvs.length -> (∀ (i:Nat) (v:Value),vs[i]? = some v -> ∃ k x,kvs[i]? = some (k,x) /\ knd.is k v = true) -> (∀ b o,s.heap.get? b = some o -> h'.get? b = some o) -> s.heap.objs.size <= h'.objs.size -> Q vs { s with heap:=h',toks:=tk }) :
    wpAny (model prog w) A (collect (.ref a)) Q E s:=by
  have hlt:a < s.heap.objs.size:=hm.lt_size
  unfold collect
  refine wpAny_bind (wpAny_runValue (codeAny_builtin F.entry_proto_collect ?_))
  rw [Around.under_plainId F.plain_proto_collect _]
  show wpAny _ A.in1 (newList [] >>= fun l => again (.builtin "list.__iadd__" ⟨[l,.ref a],[]⟩)) _ _ s
  refine wpAny_bind (wpAny_newObj_type ?_)
  refine wpAny_pure ⟨plainId_quiet F.plain_list_iadd _,codeAny_builtin F.entry_list_iadd ?_⟩
  rw [Around.under_plainId F.plain_list_iadd _]
  generalize hN:s.heap.objs.size = S at *
  have g0:(s.heap.push { cls:=.type "list",data:=.seq ([]:List Value).toArray }).get? S = some { cls:=.type "list",data:=.seq ([]:List Value).toArray }:=hN ▸ Heap.get?_push_size _ rfl
  have kp0:∀ b o,s.heap.get? b = some o -> (s.heap.push { cls:=.type "list",data:=.seq ([]:List Value).toArray }).get? b = some o:=fun b o e => Heap.get?_push_of_some _ e
  have z0:(s.heap.push { cls:=.type "list",data:=.seq ([]:List Value).toArray }).objs.size = S + 1:=by rw [Heap.size_push,hN]
  generalize s.heap.push { cls:=.type "list",data:=.seq ([]:List Value).toArray } = h0 at g0 kp0 z0 ⊢
  have hm0:h0.DictAt knd a kvs ep:=hm.keep kp0
  show wpAny _ A.in1 (Builtin.List.listExtendWith (.ref S) (.ref a) (.ref S)) _ _ _
  unfold Builtin.List.listExtendWith
  have hT0:Shared.TypeIs { s with heap:=h0 } (.ref a) "dict":=hm0.dictOf.typeIs
  refine wpAny_bind (wpAny_typeOf hT0 ?_)
  have h1:Builtin.List.listSameRef (.ref S) (.ref a) = false:=by
    simp [Builtin.List.listSameRef]
    exact Nat.ne_of_gt hlt
  have h2:(Value.type "dict" == Value.type "list") = false:=by decide
  have h3:(Value.type "dict" == Value.type "tuple") = false:=by decide
  simp only [h1,h2,h3,Bool.or_false,Bool.false_eq_true,if_false]
  refine wpAny_bind (wpAny_pyIter_dict (s:={ s with heap:=h0 }) hd hm0 ?_)
  have hni:a ≠ h0.objs.size:=by rw [z0]; exact Nat.ne_of_lt (Nat.lt_succ_of_lt hlt)
  have W:=Walks.dictKeys (prog:=prog) (w:=w) (knd:=knd) (A:=A.in1) (by simpa using hh) h0.objs.size a hni kvs ep
  have st:(h0.push { cls:=.type "dict_keyiterator",data:=.fields #[.ref a,.int (0:Nat) 0,.int kvs.length 0,.int ep 0] }).IsKeyIter h0.objs.size a 0 kvs.length ep /\
      (h0.push { cls:=.type "dict_keyiterator",data:=.fields #[.ref a,.int (0:Nat) 0,.int kvs.length 0,.int ep 0] }).DictAt knd a kvs ep:=⟨⟨_,Heap.get?_push_size _ rfl,rfl,rfl⟩,hm0.push _⟩
  have kp1:∀ b o,h0.get? b = some o -> (h0.push { cls:=.type "dict_keyiterator",data:=.fields #[.ref a,.int (0:Nat) 0,.int kvs.length 0,.int ep 0] }).get? b = some o:=fun b o e => Heap.get?_push_of_some _ e
  show wpAny _ A.in1 _ _ _ { s with heap:=h0.push { cls:=.type "dict_keyiterator",data:=.fields #[.ref a,.int (0:Nat) 0,.int kvs.length 0,.int ep 0] } }
  generalize h0.push { cls:=.type "dict_keyiterator",data:=.fields #[.ref a,.int (0:Nat) 0,.int kvs.length 0,.int ep 0] } = h' at st kp1 ⊢
  have gS:h'.get? S = some { cls:=.type "list",data:=.seq ([]:List Value).toArray }:=kp1 _ _ g0
  have hSf:S ∉ [h0.objs.size,a]:=by
    rw [z0]
    simp only [List.mem_cons,List.not_mem_nil,or_false,not_or]
    exact ⟨Nat.ne_of_lt (Nat.lt_succ_self _),Nat.ne_of_gt hlt⟩
  refine wpAny_bind (wpAny_holding (hint_dict (show Shared.TypeIs { s with heap:=h' } (.ref a) "dict" from st.2.dictOf.typeIs) ?_))
  show wpAny _ A.in1 (if (false || _) = true then _ else _) _ _ _
  rw [if_pos (by first | rfl | decide)]
  refine wpAny_bind (wpAny_rule ?_)
  refine wpAny_bind ?_
  show wpAny _ A.in1 (updateSeq S (·.push .none) >>= fun _ => updateSeq S (·.pop)) _ _ _
  refine wpAny_bind (wpAny_updateSeq gS rfl ?_)
  have gS2:=Heap.get?_update_self (Obj.mapSeq (·.push Value.none)) gS rfl
  refine wpAny_updateSeq gS2 rfl ?_
  have gS3:=Heap.get?_update_self (Obj.mapSeq (·.pop)) gS2 rfl
  have oth:∀ b o,b ≠ S -> h'.get? b = some o -> ((h'.update S (Obj.mapSeq (·.push Value.none))).update S (Obj.mapSeq (·.pop))).get? b = some o :=
    fun b o hb e => (Heap.get?_update_other _ _ (Ne.symm hb)).trans ((Heap.get?_update_other _ _ (Ne.symm hb)).trans e)
  generalize (h'.update S (Obj.mapSeq (·.push Value.none))).update S (Obj.mapSeq (·.pop)) = h3 at gS3 oth ⊢
  refine wpAny_pure ⟨plainId_quiet F.plain_extend_loop _,codeAny_extend_loopS W.toS hb S hSf _ kvs.length 0 _ _ _ rfl (Nat.zero_le _)
    (W.frame 0 h' h3 st fun b hb o e => oth b o (fun z => hSf (z ▸ hb)) e) gS3 (ItemsOf.nil _) fun s' acc' c' mv hS' hacc => ?_⟩
  show wpAny _ A (load S >>= _) _ _ s'
  refine wpAny_bind (wpAny_load hS' ?_)
  refine wpAny_pure ?_
  obtain ⟨h4,g4,d4,t4,o4⟩:=s'
  have eg:g4 = s.gens:=mv.gens
  have ed:d4 = s.drawn:=mv.drawn
  have eo:o4 = s.os:=mv.os
  subst eg ed eo
  refine h acc'.toList h4 t4 (by rw [Array.length_toList]; exact hacc.1) (fun i v hv => hacc.2 i v (by simpa using hv)) (fun b o e => ?_) (Nat.le_of_lt (Heap.lt_size hS'))
  have hbS:b < S:=hN ▸ Heap.lt_size e
  exact mv.heap b o (by
    rw [z0]
    simp only [List.mem_cons,List.not_mem_nil,or_false,not_or]
    exact ⟨Nat.ne_of_lt hbS,Nat.ne_of_lt (Nat.lt_succ_of_lt hbS)⟩) (oth b o (Nat.ne_of_lt hbS) (kp1 _ _ (kp0 _ _ e)))
end
end L2
namespace L2
open PySem PyProof.Rows
theorem list_no_keys:typeLookup (.type "list") "keys" = pure none:=by rw [typeLookup_type,builtinLookup_eq_fast]; kernel_rfl
theorem entry_du_loop:entryFor table "dict.update.loop" = some Builtin.«dict.update.loop»:=entryFor_of_tree (by kernel_rfl)
theorem plain_du_loop:plainId "dict.update.loop" = true:=by decide +kernel
section
variable {prog:Program} {w:World} {A:Around} {E:Value -> Shared -> Prop} {s:Shared}
theorem keys_miss {l:Addr} {xs:Array Value} {k:Nat} {Q:Option Value -> Shared -> Prop} (hx:s.heap.get? l = some { cls:=.type "list",data:=.seq xs k }) (hA:A.handled = none)
    (h:∀ h' tk,(∀ b o,s.heap.get? b = some o -> h'.get? b = some o) -> Q none { s with heap:=h',toks:=tk }):wpAny (model prog w) A (getAttr? (.ref l) "keys") Q E s:=by
  obtain ⟨hp,g,d,tk,os⟩:=s
  have hT:∀ tk',(⟨hp,g,d,tk',os⟩:Shared).TypeIs (.ref l) "list":=fun _ => ⟨_,hx,rfl⟩
  have f1:=sub_AttributeError
  have f3:=F.slot_list_getattribute.lookup
  have f4:=F.slot_list_getattribute.bind (.ref l)
  have f5:=am_list_getattr_none
  unfold getAttr? getAttrBy? getAttrBy
  repeat (any_goals (first | assumption | exact hT _ | ((with_reducible show wpAny _ _ (call (Value.builtin "list.__getattribute__") _ _) _ _ _); refine call_meets F.slot_list_getattribute (hT _) am_entry_list_getattribute (F.args_list_getattribute_2 _ _) (meets_getattribute_miss_list l xs k #[] (Str.ofString "keys") _ list_no_keys (by decide)) ⟨hx,by simpa using hA,fun h' tk' e hx' => ?_⟩) | wp_step))
  obtain ⟨t',u',he⟩:=hx'.there
  show wpAny _ _ (getattributeRaised _ _ _ _ _ _ _) _ _ _
  unfold getattributeRaised
  repeat (any_goals (first | assumption | wp_step))
  exact h h' tk' fun b o eb => hx'.keeps b o eb
variable {K:Type} [DecidableEq K] {knd:KeyKind prog w K}
noncomputable def laidAll (kvs:List (K×Value)) (ps:List (K×Value)):List (K×Value):=ps.foldl (fun m p => stored m p.1 p.2) kvs
theorem pair_loop {R:Result -> Shared -> Prop} {I l D:Addr} {items:Array Value} {ps:List (K×Value)} (hh:A.handled = none) (hI:l ≠ I) (hDI:D ≠ I) (hDl:D ≠ l) (hlen:items.size = ps.length)
    (hps:∀ (h:Heap) (i:Nat) (v:Value),items[i]? = some v -> (∀ b o,s.heap.get? b = some o -> b ≠ I -> b ≠ D -> h.get? b = some o) -> ∃ a key k x,v = .ref a /\ h.IsTuple a #[key,x] /\ ps[i]? = some (k,x) /\ knd.is k key = true) (hsz:ps.length <= 1000) :
    ∀ (n i:Nat) (h:Heap) (tk:Nat) (kvs:List (K×Value)),items.size - i = n -> i <= items.size -> h.IsListIter I l i -> h.IsList l items -> h.DictOf knd D kvs -> kvs.length <= i -> (∀ b o,s.heap.get? b = some o -> b ≠ I -> b ≠ D -> h.get? b = some o) ->
      (∀ h' tk',h'.DictOf knd D (laidAll kvs (ps.drop i)) -> (∀ b o,s.heap.get? b = some o -> b ≠ I -> b ≠ D -> h'.get? b = some o) -> R (.ok (.ret .none)) { s with heap:=h',toks:=tk' }) ->
      codeAny (model prog w) A (.builtin "dict.update.loop" ⟨[.ref D,.ref I,rawInt (i:Nat),.none],[]⟩) R { s with heap:=h,toks:=tk }:=by
  intro n
  induction n with
  | zero =>
    intro i h tk kvs hn hi hit hl hD hk kp hR
    have:i = items.size:=by omega
    subst this
    refine codeAny_builtin entry_du_loop ?_
    rw [Around.under_plainId plain_du_loop _]
    show wpAny _ A.in1 (pyNext (.ref I) >>= _) _ _ _
    refine wpAny_bind (wpAny_pyNext_list_end (by simpa using hh) hit hl (by simp) fun h' eb => ?_)
    show wpAny _ A.in1 (Builtin.Dict.addKeywords D [] >>= _) _ _ _
    refine wpAny_bind (wpAny_pure (wpAny_pure (hR h' tk ?_ fun b o e h1 h2 => eb b o h1 (kp b o e h1 h2))))
    rw [hlen,List.drop_length]
    obtain ⟨o,es,ep,g,r⟩:=hD
    exact ⟨o,es,ep,eb _ _ hDI g,r⟩
  | succ n ih =>
    intro i h tk kvs hn hi hit hl hD hk kp hR
    have hlt:i < items.size:=by omega
    refine codeAny_builtin entry_du_loop ?_
    rw [Around.under_plainId plain_du_loop _]
    show wpAny _ A.in1 (pyNext (.ref I) >>= _) _ _ _
    obtain ⟨v,hv⟩:∃ v,items[i]? = some v:=⟨_,Array.getElem?_eq_getElem hlt⟩
    refine wpAny_bind (wpAny_pyNext_list_item hit hl hv fun h' hit' sb => ?_)
    have kp':∀ b o,s.heap.get? b = some o -> b ≠ I -> b ≠ D -> h'.get? b = some o:=fun b o e h1 h2 => (sb.2 b h1).trans (kp b o e h1 h2)
    obtain ⟨a,key,k,x,rfl,ht,hp,hkey⟩:=hps h' i v hv kp'
    have hD':h'.DictOf knd D kvs:=by
      obtain ⟨o,es,ep,g,r⟩:=hD
      exact ⟨o,es,ep,(sb.2 _ hDI).trans g,r⟩
    have hl':h'.IsList l items:=by
      obtain ⟨o,g,r⟩:=hl
      exact ⟨o,(sb.2 _ hI).trans g,r⟩
    refine wpAny_bind (wpAny_holding ?_)
    refine wpAny_bind (wpAny_tryCatch (wpAny_mono (Q:=fun r s' => r = [key,x] /\ s' = { s with heap:=h',toks:=tk }) (E:=fun _ _ => False) ?_ (fun r s' q => ?_) fun _ _ z => z.elim))
    . unfold Builtin.Dict.pairItems
      obtain ⟨ot,g,hc,nt,hd⟩:=ht
      refine wpAny_bind (wpAny_typeOf (T:="tuple") ⟨ot,g,hc⟩ ?_)
      rw [if_pos (by decide)]
      unfold seqItems?
      refine wpAny_bind (wpAny_bind (wpAny_load g ?_))
      rw [hd]
      exact wpAny_pure (wpAny_pure ⟨rfl,rfl⟩)
    . obtain ⟨rfl,rfl⟩:=q
      show wpAny _ A.in1 (holding [key,x] (dictSet D key x)) _ _ _
      refine wpAny_holding (wpAny_dictSet_pairs hkey hD' (fun h2 hD2 sb2 => ?_) (by rw [sizeLine_eq]; omega))
      have eD:ps.drop i = (k,x) :: ps.drop (i + 1):=by
        have hlt':i < ps.length:=by omega
        rw [List.drop_eq_getElem_cons hlt']
        have:ps[i] = (k,x):=by
          have:=hp
          rw [List.getElem?_eq_getElem hlt'] at this
          exact Option.some.inj this
        rw [this]
      refine wpAny_pure ⟨plainId_quiet plain_du_loop _,?_⟩
      have:=ih (i + 1) h2 (tk + 1) (stored kvs k x) (by omega) (by omega) (by
          obtain ⟨o,g,r⟩:=hit'
          exact ⟨o,(sb2.2 _ hDI.symm).trans g,r⟩) (by
          obtain ⟨o,g,r⟩:=hl'
          exact ⟨o,(sb2.2 _ hDl.symm).trans g,r⟩) hD2 (by
          have:(stored kvs k x).length <= kvs.length + 1:=by unfold stored; split <;> simp
          omega) (fun b o e h1 h2' => (sb2.2 b h2').trans (kp' b o e h1 h2')) fun h3 tk3 hD3 kp3 => hR h3 tk3 (by rw [eD]; exact hD3) kp3
      exact this
theorem dict_pairs {Q:Value -> Shared -> Prop} {l:Addr} {items:Array Value} {k:Nat} {ps:List (K×Value)} (hh:A.handled = none) (hl:s.heap.get? l = some { cls:=.type "list",data:=.seq items k }) (hlen:items.size = ps.length)
    (hps:∀ (h:Heap) (i:Nat) (v:Value),items[i]? = some v -> (∀ b o,s.heap.get? b = some o -> h.get? b = some o) -> ∃ a key k x,v = .ref a /\ h.IsTuple a #[key,x] /\ ps[i]? = some (k,x) /\ knd.is k key = true) (hsz:ps.length <= 1000)
    (h:∀ h' tk,h'.DictOf knd s.heap.objs.size (laidAll [] ps) -> (∀ b o,s.heap.get? b = some o -> h'.get? b = some o) -> Q (.ref s.heap.objs.size) { s with heap:=h',toks:=tk }):wpAny (model prog w) A (call (.type "dict") [.ref l]) Q E s:=by
  refine callType_codes (Q₁:=fun obj s₁ => obj = .ref s.heap.objs.size /\ s₁ = { s with heap:=s.heap.push { cls:=.type "dict",data:=.dict #[] } }) F.kt_called_dict (F.kt_typeCall_dict_1 _) F.entry_dict_init (kt_code_dict_new _ ⟨rfl,rfl⟩) ?_
  rintro obj s₁ ⟨rfl,rfl⟩
  have hlt:l < s.heap.objs.size:=Heap.lt_size hl
  have z0:(s.heap.push { cls:=.type "dict",data:=.dict #[] }).objs.size = s.heap.objs.size + 1:=Heap.size_push ..
  have hnew:(s.heap.push { cls:=.type "dict",data:=.dict #[] }).DictOf knd s.heap.objs.size []:=Heap.DictOf.new s.heap
  have hl0:(s.heap.push { cls:=.type "dict",data:=.dict #[] }).get? l = some { cls:=.type "list",data:=.seq items k }:=Heap.get?_push_of_some _ hl
  have kp0:∀ b o,s.heap.get? b = some o -> (s.heap.push { cls:=.type "dict",data:=.dict #[] }).get? b = some o:=fun b o e => Heap.get?_push_of_some _ e
  generalize s.heap.push { cls:=.type "dict",data:=.dict #[] } = h0 at z0 hnew hl0 kp0 ⊢
  refine ⟨hnew.typeIs,F.args_dict_init_2 _ _,?_⟩
  unfold Builtin.«dict.__init__»
  refine wpAny_bind ?_
  unfold Builtin.Dict.selfAndRest
  refine wpAny_bind (wpAny_notOrdered_dict hnew.typeIs ?_)
  show wpAny _ _ (pure (s.heap.objs.size,[Value.ref l])) _ _ _
  refine wpAny_pure ?_
  show wpAny _ _ (Builtin.Dict.updateFrom "dict.__init__" s.heap.objs.size (.ref l) [] .none) _ _ _
  unfold Builtin.Dict.updateFrom
  refine wpAny_bind (wpAny_typeOf (T:="list") ⟨_,hl0,rfl⟩ ?_)
  rw [if_pos (by decide)]
  refine wpAny_bind (keys_miss hl0 (by simpa using hh) fun h1 tk1 kp1 => ?_)
  rw [if_pos (by rfl)]
  refine wpAny_bind (wpAny_rule ?_)
  have hl1:h1.get? l = some { cls:=.type "list",data:=.seq items k }:=kp1 _ _ hl0
  have hD1:h1.DictOf knd s.heap.objs.size []:=by
    obtain ⟨o,es,ep,g,r⟩:=hnew
    exact ⟨o,es,ep,kp1 _ _ g,r⟩
  have hg1:s.heap.objs.size < h1.objs.size:=by
    obtain ⟨o,es,ep,g,r⟩:=hD1
    exact Heap.lt_size g
  refine wpAny_bind (wpAny_pyIter_list ⟨_,hl1,rfl,k,rfl⟩ ?_)
  refine wpAny_pure ⟨plainId_quiet plain_du_loop _,?_⟩
  have key:=pair_loop (A:=A.in1) (knd:=knd) (s:=s) (R:=wants (fun r s₂ => r = .none /\ Q (.ref s.heap.objs.size) s₂) E) (I:=h1.objs.size) (l:=l) (D:=s.heap.objs.size) (items:=items) (ps:=ps) (by simpa using hh) (Nat.ne_of_lt (Nat.lt_trans hlt hg1)) (Nat.ne_of_lt hg1) (Nat.ne_of_gt hlt) hlen
    (fun h i v hv kp => hps h i v hv fun b o e => kp b o e (Nat.ne_of_lt (Nat.lt_trans (Heap.lt_size e) hg1)) (Nat.ne_of_lt (Heap.lt_size e))) hsz items.size 0 (h1.push { cls:=.type "list_iterator",data:=.fields #[.ref l,.int 0 0] }) tk1 [] rfl (Nat.zero_le _)
    ⟨_,Heap.get?_push_size _ rfl,rfl,rfl⟩ ⟨_,Heap.get?_push_of_some _ hl1,rfl,k,rfl⟩ (hD1.push _) (Nat.zero_le _) (fun b o e _ _ => Heap.get?_push_of_some _ (kp1 _ _ (kp0 _ _ e)))
    fun h' tk' hD' kp' => ⟨rfl,h h' tk' (by simpa using hD') fun b o e => kp' b o e (Nat.ne_of_lt (Nat.lt_trans (Heap.lt_size e) hg1)) (Nat.ne_of_lt (Heap.lt_size e))⟩
  exact key
end
end L2
namespace L2
open PySem PyProof.Rows
section
variable {prog:Program} {w:World} {K:Type} [DecidableEq K] {knd:KeyKind prog w K} {A:Around} {E:Value -> Shared -> Prop} {s:Shared} {d:Addr} {kvs:List (K×Value)} {k:K} {key dflt:Value}
theorem setdef_pairs {Q:Value -> Shared -> Prop} (hkey:knd.is k key = true) (hm:s.heap.DictOf knd d kvs) (hsz:kvs.length <= sizeLine)
    (h1:∀ v,valueAt kvs k = some v -> Q v { s with toks:=s.toks + 1 }) (h2:valueAt kvs k = none -> ∀ h',h'.DictOf knd d (kvs ++ [(k,dflt)]) -> Heap.SameBut d s.heap h' -> Q dflt { s with heap:=h',toks:=s.toks + 1 }) :
    wpAny (model prog w) A (dictSetDefault d key dflt) Q E s:=by
  obtain ⟨o,es,ep,ho,hc0,hd,hk0,hf⟩:=hm.mapOf
  obtain ⟨o',es',ep',ho',hc,hd',hk,hp,hn⟩:=hm
  rw [ho] at ho'
  cases ho'
  rw [hd] at hd'
  cases hd'
  have hes:es.size <= sizeLine:=by
    have e1:=hp.length
    simp at e1
    omega
  unfold dictSetDefault
  refine wpAny_holding (wpAny_bind (knd.pyHash hkey ?_))
  refine wpAny_bind (wpAny_dictFind_of (s:={ s with toks:=s.toks + 1 }) hkey ho hd hk ?_)
  have hidx:(es.findIdx? fun e => knd.is k e.key) = kvs.findIdx? fun kv => decide (kv.1 = k):=by
    rw [← hp.findIdx k]
    obtain ⟨l⟩:=es
    simp
  have hfk:=hf k
  rw [findBy_of_findIdx?] at hfk
  cases hi:es.findIdx? fun e => knd.is k e.key with
  | some i =>
    rw [hi] at hfk
    have hlt:i < es.size:=(Array.findIdx?_eq_some_iff_findIdx_eq.mp hi).1
    have hge:es[i]? = some es[i]:=Array.getElem?_eq_getElem hlt
    refine wpAny_bind (wpAny_dictEntries (s:={ s with toks:=s.toks + 1 }) ho hd ?_)
    rw [hge]
    refine wpAny_bind (wpAny_rule (wpAny_pure (h1 _ ?_)))
    rw [← hfk]
    simp [hge]
  | none =>
    rw [hi] at hfk
    have hnot:k ∉ kvs.map (·.1):=not_mem_of_findIdx_none (hidx ▸ hi)
    refine wpAny_bind (wpAny_rule (wpAny_bind (wpAny_updateDictKeys (hz:=hes) (s:={ s with toks:=s.toks + 1 }) ho hd (wpAny_pure (h2 hfk.symm _ ⟨_,_,ep + 1,Heap.get?_update_self _ ho (Obj.isFreed_of_dict (Obj.data_mapDictKeys hd _)),
      hc.mapDictKeys _,Obj.data_mapDictKeys hd _,hk.push hkey _,?_,?_⟩ (Heap.SameBut.update ..))))))
    . have:=hp.append hkey (knd.hash k) dflt
      obtain ⟨l⟩:=es
      simpa using this
    . rw [List.map_append,List.nodup_append]
      refine ⟨hn,by simp,fun a ha b hb => ?_⟩
      have hb:b = k:=by simpa using hb
      subst hb
      exact fun e => hnot (e ▸ ha)
theorem call_setdef {Q:Value -> Shared -> Prop} (hkey:knd.is k key = true) (hs:(d == sysModules) = false) (hm:s.heap.DictOf knd d kvs) (hsz:kvs.length <= sizeLine)
    (h1:∀ v,valueAt kvs k = some v -> Q v { s with toks:=s.toks + 1 }) (h2:valueAt kvs k = none -> ∀ h',h'.DictOf knd d (kvs ++ [(k,dflt)]) -> Heap.SameBut d s.heap h' -> Q dflt { s with heap:=h',toks:=s.toks + 1 }) :
    wpAny (model prog w) A (call (.builtin "dict.setdefault") [.ref d,key,dflt]) Q E s:=by
  refine wpAny_call_entry F.slot_dict_setdefault hm.typeIs F.entry_dict_setdefault ?_ (F.args_dict_setdefault_3 _ _ _)
  unfold Builtin.«dict.setdefault»
  refine wpAny_bind ?_
  unfold Builtin.Dict.keyAndDefault
  refine wpAny_bind (wpAny_notOrdered_dict hm.typeIs ?_)
  show wpAny _ _ (pure (d,key,some dflt)) _ _ s
  refine wpAny_pure ?_
  show wpAny _ _ (if (d == sysModules) = true then _ else _) _ _ s
  rw [if_neg (by rw [hs]; exact Bool.false_ne_true)]
  refine wpAny_bind (setdef_pairs hkey hm hsz (fun v e => wpAny_pure ⟨_,rfl,h1 v e⟩) fun e h' hd' sb => wpAny_pure ⟨_,rfl,h2 e h' hd' sb⟩)
end
end L2
namespace L2
open PySem PyProof.Rows
end L2
namespace L2
open PySem PySem.Spec PyProof.Rows
noncomputable def melt (a:Addr) (H:Hp):Hp:=fun b => if b = a then (match H a with | some (.frz _ u) => some u | o => o) else H b
theorem melt_ne {a b:Addr} {H:Hp} (h:b ≠ a):melt a H b = H b:=by unfold melt; rw [if_neg h]
theorem melt_at {a:Addr} {H:Hp} {o:Obj} {u:HO} (h:H a = some (.frz o u)):melt a H a = some u:=by unfold melt; rw [if_pos rfl,h]
theorem melt_none {a b:Addr} {H:Hp} (h:H b = none):melt a H b = none:=by
  unfold melt
  split
  . rename_i e
    subst e
    rw [h]
  . exact h
theorem melt_old {a b:Addr} {H:Hp} {o:HO} (hn:∀ ob u,o ≠ .frz ob u) (h:H b = some o):melt a H b = some o:=by
  unfold melt
  split
  . rename_i e
    subst e
    rw [h]
    cases o <;> first | rfl | exact absurd rfl (hn _ _)
  . exact h
theorem melt_frz {a:Addr} {H:Hp} {o:Obj} {u:HO} (h:H a = some (.frz o u)):melt a H = upd H a u:=by
  funext b
  by_cases hb:b = a
  . subst hb; rw [melt_at h,upd_same]
  . rw [melt_ne hb,upd_ne hb]
section
variable {X:Cx} {pins:List (Addr×Obj)} {σ:St} {H:Hp} {s:Shared} {a:Addr}
theorem Inv.melt (I:Inv X pins σ H s) (h0:∀ o u,X.H₀ a ≠ some (.frz o u)):Inv X pins σ (L2.melt a H) s:=by
  refine ⟨I.ok,I.os,I.bare,⟨I.base.keep,I.base.slot,fun b o e n hx => melt_none (I.base.free b o e n hx),I.base.there,fun b xs e => melt_old (fun _ _ z => nomatch z) (I.base.tups b xs e),fun b o u e => ?_,fun b ps e => ?_⟩,
    I.loc,I.cell,melt_none I.free,fun x c e => melt_none (I.freeC x c e),fun p hp => ?_,fun b u e => ?_,I.len⟩
  . have hb:b ≠ a:=fun z => by subst z; exact h0 _ _ e
    rw [melt_ne hb]
    exact I.base.frzs b o u e
  . obtain ⟨more,q⟩:=I.base.tbls b ps e
    exact ⟨more,melt_old (fun _ _ z => nomatch z) q⟩
  . obtain ⟨e,n,r⟩:=I.pin p hp
    exact ⟨e,melt_none n,r⟩
  . have st:∀ {v:HO},ObjOk X.prog X.w H s.heap b v -> ObjOk X.prog X.w (L2.melt a H) s.heap b v:=fun {v} x =>
      x.stay (fun _ _ _ q => q) (fun c q => melt_old (fun _ _ z => nomatch z) q) fun c xs q => melt_old (fun _ _ z => nomatch z) q
    by_cases hb:b = a
    . subst hb
      cases q:H b with
      | none => rw [melt_none q] at e; cases e
      | some z =>
        have hz:=I.hok b z q
        by_cases hf:∃ o v,z = .frz o v
        . obtain ⟨o,v,rfl⟩:=hf
          rw [melt_at q] at e
          cases e
          exact st hz.2
        . rw [melt_old (fun o v w => hf ⟨o,v,w⟩) q] at e
          cases e
          exact st hz
    . rw [melt_ne hb] at e
      exact st (I.hok b u e)
theorem Inv.freeze {kvs:List (Key×V)} {o:Obj} (I:Inv X pins σ H s) (h:H a = some (.dK kvs)) (hg:s.heap.get? a = some o):Inv X pins σ (upd H a (.frz o (.dK kvs))) s:=by
  have ne:∀ {b:Addr} {u:HO},H b = some u -> u ≠ .dK kvs -> b ≠ a:=fun {b u} e z w => by subst w; rw [h] at e; exact z (Option.some.inj e).symm
  have nn:∀ {b:Addr},H b = none -> upd H a (.frz o (.dK kvs)) b = none:=fun {b} e => by rw [upd_ne (fun w => by subst w; rw [h] at e; cases e)]; exact e
  have old:∀ {b:Addr} {u:HO},H b = some u -> u ≠ .dK kvs -> upd H a (.frz o (.dK kvs)) b = some u:=fun {b u} e z => by rw [upd_ne (ne e z)]; exact e
  refine ⟨I.ok,I.os,I.bare,⟨I.base.keep,I.base.slot,fun b o e n hx => nn (I.base.free b o e n hx),I.base.there,fun b xs e => old (I.base.tups b xs e) (fun z => nomatch z),fun b o u e => old (I.base.frzs b o u e) (fun z => nomatch z),fun b ps e => ?_⟩,
    I.loc,I.cell,nn I.free,fun x c e => nn (I.freeC x c e),fun p hp => ?_,fun b u e => ?_,I.len⟩
  . obtain ⟨more,q⟩:=I.base.tbls b ps e
    exact ⟨more,old q (fun z => nomatch z)⟩
  . obtain ⟨e,n,r⟩:=I.pin p hp
    exact ⟨e,nn n,r⟩
  . have st:∀ {v:HO},ObjOk X.prog X.w H s.heap b v -> ObjOk X.prog X.w (upd H a (.frz o (.dK kvs))) s.heap b v:=fun {v} x =>
      x.stay (fun _ _ _ q => q) (fun c q => old q (fun z => nomatch z)) fun c xs q => old q (fun z => nomatch z)
    by_cases hb:b = a
    . subst hb
      rw [upd_same] at e
      cases e
      exact ⟨hg,st (I.hok b _ h)⟩
    . rw [upd_ne hb] at e
      exact st (I.hok b u e)
end
noncomputable def Itd (a:Addr) (o:Obj) (kvs:List (Key×V)):It :=
  ⟨fun i H => H a = some (.frz o (.dK kvs)) /\ i < kvs.length,fun i H x H' => H' = H /\ ∃ k v,kvs[i]? = some (k,v) /\ x = kV k,fun i H => H a = some (.frz o (.dK kvs)) /\ kvs.length <= i⟩
theorem kv_at {κ:Type}:∀ {kvs:List (κ×V)} {vs:List (κ×Value)} {i:Nat} {k:κ} {v:V},KV kvs vs -> kvs[i]? = some (k,v) -> ∃ u,vs[i]? = some (k,u)
  | _,_,_,_,_,.nil,e => by simp at e
  | _,_,0,k,v,.cons (b:=q) r _,e => by
    simp at e
    subst e
    exact ⟨q.2,by simp; exact Prod.ext r.1.symm rfl⟩
  | _,_,i + 1,k,v,.cons _ t,e => by
    obtain ⟨u,h⟩:=kv_at (i:=i) (k:=k) (v:=v) t (by simpa using e)
    exact ⟨u,by simpa using h⟩
theorem key_rel {P:Program} {w:World} {k:Key} {u:Value} (h:(mixKind P w).is k u = true):RelV (kV k) u:=by
  rcases keyIs_shape h with ⟨i,t,rfl,rfl⟩ | ⟨x,t,rfl,rfl⟩
  . exact ⟨t,rfl⟩
  . exact ⟨t,rfl⟩
section
variable {X:Cx} {tg:Expr}
theorem dict_at {pins:List (Addr×Obj)} {σ:St} {H:Hp} {s:Shared} {a:Addr} {kvs:List (Key×V)} {o:Obj} (I:Inv X pins σ H s) (h:H a = some (.frz o (.dK kvs))) :
    (a == sysModules) = false /\ ∃ vs es ep,KV kvs vs /\ o.data = .dict es ep /\ s.heap.DictAt (mixKind X.prog X.w) a vs ep:=by
  obtain ⟨g,hz⟩:=I.hok a _ h
  obtain ⟨_,hd,vs,rel,o',es,ep,e,r⟩:=hz
  rw [g] at e
  cases e
  exact ⟨hd,vs,es,ep,rel,r.2.1,o,es,g,r⟩
theorem turn_dict {P:Program} {w:World} {K:PySem.W.Frag} (a it:Addr) (o:Obj) (kvs:List (Key×V)):Turn P w K tg (Itd a o kvs) [it] it (fun i h => ∃ es ep,o.data = .dict es ep /\ h.IsKeyIter it a i kvs.length ep) where
  mem:=by simp
  obj:=fun i h st b hb => by
    have e:b = it:=by simpa using hb
    subst e
    obtain ⟨_,_,_,o,e,c,d⟩:=st
    exact ⟨o,e,fun v z => by rw [d] at z; cases z⟩
  keep:=fun i h h' ⟨es,ep,q,st⟩ k => ⟨es,ep,q,st.at fun o e => k it (by simp) o e⟩
  item:=by
    intro X hP hw hK hc i pins s σ H E I hf st hg
    subst hP hw hK
    obtain ⟨ha,hi⟩:=hg
    obtain ⟨hd,vs,es,ep,rel,ed,dd⟩:=dict_at I ha
    obtain ⟨es',ep',ed',st⟩:=st
    rw [ed] at ed'
    cases ed'
    obtain ⟨f0,f1,f2,f3,f4,f5⟩:=hf it (by simp)
    obtain ⟨⟨k,v⟩,hx⟩:∃ p,kvs[i]? = some p:=⟨_,List.getElem?_eq_getElem hi⟩
    obtain ⟨u,hu⟩:=kv_at rel hx
    rw [rel.length] at st
    refine wpAny_pyNext_dict_item st dd hu fun key h' hkey hit' sb => ?_
    rw [← rel.length] at hit'
    have I1:Inv X pins σ H { s with heap:=h' }:=I.turned (t':=s.toks) (fun b o hb e => (sb.2 b hb).trans e) f0 f1 f3 f4 f5
    obtain ⟨oi,e,c,d⟩:=id hit'
    exact ⟨key,rfl,go_of (s:={ s with heap:=h' }) e c d (by decide) ⟨kV k,H,I1,key_rel hkey,⟨rfl,k,v,hx,rfl⟩,⟨es,ep,ed,hit'⟩,fun b hb => (hf b hb).1⟩⟩
  done:=by
    intro X hP hw hK hc i pins s σ H E I hf st hg
    subst hP hw hK
    obtain ⟨ha,hi⟩:=hg
    obtain ⟨hd,vs,es,ep,rel,ed,dd⟩:=dict_at I ha
    obtain ⟨es',ep',ed',st⟩:=st
    rw [ed] at ed'
    cases ed'
    obtain ⟨f0,f1,f2,f3,f4,f5⟩:=hf it (by simp)
    rw [rel.length] at st hi
    exact wpAny_pyNext_dict_end (I.ok.hd hc) st dd (by simpa using hi) fun h' eb => ⟨rfl,I.turned (t':=s.toks) (fun b o hb e => eb b o hb e) f0 f1 f3 f4 f5⟩
  self:=fun _ _ _ _ _ ⟨_,_,_,st⟩ h => wpAny_pyIter_keyiter st h
noncomputable def iDict (a:Addr) (tl:TE):TI:=fun σ H R => tl σ H fun x H1 => x = .ref a /\ ∃ kvs,H1 a = some (.dK kvs) /\ ∀ o,R (Itd a o kvs) (upd H1 a (.frz o (.dK kvs)))
theorem pi_dict {l:Expr} {tl:TE} (a:Addr) (hl:PE X l tl):PI X tg l (iDict a tl):=by
  intro pins s σ H R I h
  refine thn (hl pins s σ H _ I h) fun v s1 ⟨x,H1,I1,r1,q1⟩ => ?_
  obtain ⟨e,kvs,hk,q⟩:=q1
  subst e
  cases r1
  obtain ⟨_,hd,vs,rel,o,es,ep,g,r⟩:=I1.hok a _ hk
  have I2:=I1.freeze hk g
  refine wpAny_pyIter_dict hd ⟨o,es,g,r⟩ ?_
  refine ⟨s1.heap.objs.size,[s1.heap.objs.size],_,_,_,rfl,I2.kept (t':=s1.toks) fun b o e => Heap.get?_push_of_some _ e,turn_dict a _ o kvs,⟨es,ep,r.2.1,?_⟩,fun b hb => ?_,q o⟩
  . rw [rel.length]
    exact ⟨_,Heap.get?_push_size _ rfl,rfl,rfl⟩
  . have e:b = s1.heap.objs.size:=by simpa using hb
    subst e
    exact I2.fpOk (Nat.le_refl _) (I2.hok.fresh (Nat.le_refl _))
noncomputable def Dm (a:Addr) (D:Ends):Ends:=⟨fun σ H => D.nx σ (melt a H),fun v H => D.rt v (melt a H),fun σ H => D.bk σ (melt a H),fun σ H => D.ct σ (melt a H)⟩
noncomputable def NoFrz (H:Hp) (a:Addr):Prop:=∀ o u,H a ≠ some (.frz o u)
noncomputable def tForD (tl:TE) (g:TG) (tb:TS):TS:=fun D σ H => ∃ a,NoFrz H a /\ tFor (iDict a tl) g tb (Dm a D) σ H
theorem ps_forD {iter:Expr} {body:List Stmt} {tl:TE} {g:TG} {tb:TS} {pos:Pos} (hp:PassesOwn (model X.prog X.w) X.A X.env X.xe) (hc:X.calm = true) (hi:PE X iter tl) (hg:PG X tg g) (hb:PSs X body tb)
    (hs:∀ x,foldedSetIterable iter X.env x = pure x:=by intro _; rfl):PS X (.For tg iter body [] pos) (tForD tl g tb):=by
  intro pins s σ H D I h
  obtain ⟨a,nf,h⟩:=h
  have h0:∀ o u,X.H₀ a ≠ some (.frz o u):=fun o u e => nf _ _ (I.base.frzs a o u e)
  refine thn (ps_for hp hc (pi_dict a hi) hg hb hs pins s σ H (Dm a D) I h) fun f s' q => ?_
  cases f with
  | next => obtain ⟨σ',H',I',q⟩:=q; exact ⟨σ',_,I'.melt h0,q⟩
  | brk => obtain ⟨σ',H',I',q⟩:=q; exact ⟨σ',_,I'.melt h0,q⟩
  | cont => obtain ⟨σ',H',I',q⟩:=q; exact ⟨σ',_,I'.melt h0,q⟩
  | ret u => obtain ⟨v,σ',H',I',r,q⟩:=q; exact ⟨v,σ',_,I'.melt h0,r,q⟩
variable {scope:Scope} {tn names:List Str} {is:List Nat} {elt iter:Expr} {ifs:List Expr} {pos:Pos} {tl te:TE} {tc:Option TT} {g:TG}
noncomputable def tCompD (tl:TE) (te:TE) (tc:Option TT) (g:TG) (k:Nat) (is:List Nat):TE:=fun σ H Q => ∃ a,NoFrz H a /\ tComp (iDict a tl) te tc g k is σ H fun v H' => Q v (melt a H')
theorem pe_compD (ck:CompOk X scope tn names is) (hc:X.calm = true) (hi:PE X iter tl)
    (hg:∀ C s0 H0 ex,PG (cxComp X scope (capsOf X.env names) (tn ++ names) C s0 H0 ex) tg g) (he:∀ C s0 H0 ex,PE (cxComp X scope (capsOf X.env names) (tn ++ names) C s0 H0 ex) elt te)
    (ht:∀ C s0 H0 ex,PTs (cxComp X scope (capsOf X.env names) (tn ++ names) C s0 H0 ex) ifs tc) (hs:∀ x,foldedSetIterable iter X.env x = pure x:=by intro _; rfl) :
    PE X (.ListComp elt [⟨tg,iter,ifs,0⟩] scope pos) (tCompD tl te tc g tn.length is):=by
  intro pins s σ H Q I h
  obtain ⟨a,nf,h⟩:=h
  have h0:∀ o u,X.H₀ a ≠ some (.frz o u):=fun o u e => nf _ _ (I.base.frzs a o u e)
  refine thn (pe_comp ck hc (pi_dict a hi) hg he ht hs pins s σ H _ I h) fun u s' ⟨v,H',I',r,q⟩ => ⟨v,_,I'.melt h0,r,q⟩
end
end L2
namespace L2
open PySem PySem.Spec PyProof.Rows
section
variable {X:Cx} {pins:List (Addr×Obj)} {σ:St} {H:Hp} {s:Shared} {tg:Expr}
theorem Inv.dr (I:Inv X pins σ H s) (d:Drawn):Inv X pins σ H { s with drawn:=d }:=⟨I.ok,I.os,I.bare,I.base,I.loc,I.cell,I.free,I.freeC,I.pin,I.hok,I.len⟩
noncomputable def Ite (K:PySem.W.Frag) (a:Addr):It :=
  ⟨fun i H => ∃ xs x,SqL K H a xs /\ xs[i]? = some x,fun i H v H' => ∃ T x,v = .ref T /\ H T = none /\ H' = upd H T (.tup [.int i,x]) /\ ∀ xs,SqL K H a xs -> xs[i]? = some x,fun i H => ∃ xs,SqL K H a xs /\ xs.length <= i⟩
theorem turn_enum {P:Program} {w:World} {K:PySem.W.Frag} {elts:List Expr} {k1:Nat} {tpos:Pos} (a e it:Addr) (hei:e ≠ it) :
    Turn P w K (.Tuple elts k1 tpos) (Ite K a) [e,it] e (fun i h => (∃ old,IsEnum h e it i old) /\ h.IsListIter it a i) where
  mem:=by simp
  obj:=fun i h st b hb => by
    obtain ⟨⟨old,he⟩,o,e1,c,d⟩:=st
    rcases List.mem_cons.mp hb with rfl | hb
    . exact ⟨_,he,fun v z => nomatch z⟩
    . have hb:b = it:=by simpa using hb
      subst hb
      exact ⟨o,e1,fun v z => by rw [d] at z; cases z⟩
  keep:=fun i h h' ⟨⟨old,he⟩,st⟩ k => ⟨⟨old,k e (by simp) _ he⟩,st.at fun o q => k it (by simp) o q⟩
  item:=by
    intro X hP hw hK hc i pins s σ H E I hf st hg
    subst hP hw hK
    obtain ⟨xs,x,hq,hx⟩:=hg
    obtain ⟨its,rv,p,hz⟩:=I.list hq
    obtain ⟨u,hu,ru⟩:=rv.get hx
    obtain ⟨⟨old,he⟩,hit⟩:=st
    obtain ⟨f0,f1,f2,f3,f4,f5⟩:=hf e (by simp)
    obtain ⟨g0,g1,g2,g3,g4,g5⟩:=hf it (by simp)
    refine wpAny_pyNext_enum_item he hit p.isList (by simpa using hu) hei fun h' ho hit' hT hsz hk => ?_
    refine ⟨_,rfl,wpAny_letOwnedTupleGo_enum (s:={ s with heap:=h',toks:=s.toks + 1 }) ho fun h2 he2 sb => ?_⟩
    have hTn:H s.heap.objs.size = none:=I.hok.fresh (Nat.le_refl _)
    have hTe:s.heap.objs.size ≠ e:=Nat.ne_of_gt (Heap.lt_size he)
    have hTi:s.heap.objs.size ≠ it:=by obtain ⟨_,q,_⟩:=hit; exact Nat.ne_of_gt (Heap.lt_size q)
    have k2:∀ b o,b ≠ e -> b ≠ it -> s.heap.get? b = some o -> h2.get? b = some o:=fun b o n1 n2 q => (sb.2 b n1).trans (hk b o n1 n2 q)
    -- first the iterators turn,then the tuple is tracked
    have I1:Inv X pins σ H { s with heap:=h2,toks:=s.toks + 1 }:=by
      refine I.step (g':=s.gens) (d':=s.drawn) (t':=s.toks + 1) (ch:=[e,it]) (fun b hb => ?_) (fun b o _ _ hb q _ => k2 b o (fun z => hb (by simp [z])) (fun z => hb (by simp [z])) q) (fun b o _ _ hb q _ => ⟨o.slots,k2 b o (fun z => hb (by simp [z])) (fun z => hb (by simp [z])) q⟩)
        (fun b o _ _ q => q) (fun b o hb q => ⟨o,k2 b o (fun z => hb (by simp [z])) (fun z => hb (by simp [z])) q⟩) (fun _ _ q => q) (fun _ _ _ q => q) (fun _ ps q => ⟨#[],by simpa using q⟩) (fun m hm => ?_) ?_ I.bare
      . rcases List.mem_cons.mp hb with rfl | hb
        . exact ⟨f3,f1,f4,f5⟩
        . have hb:b = it:=by simpa using hb
          subst hb
          exact ⟨g3,g1,g4,g5⟩
      . obtain ⟨o,es,ep,q,r⟩:=hm
        exact ⟨o,es,ep,k2 _ _ (Ne.symm f1) (Ne.symm g1) q,r⟩
      . intro b u q
        refine (I.hok b u q).stay (fun c v hc r => k2 c v ?_ ?_ r) (fun _ q => q) fun _ _ q => q
        . rintro rfl
          rcases hc with rfl | hc
          . rw [f0] at q; cases q
          . rw [f0] at hc; cases hc
        . rintro rfl
          rcases hc with rfl | hc
          . rw [g0] at q; cases q
          . rw [g0] at hc; cases hc
    have hT2:h2.get? s.heap.objs.size = some { cls:=.type "tuple",data:=.seq #[.int i s.toks,u] }:=(sb.2 _ hTe).trans hT
    have I2:Inv X pins σ (upd H s.heap.objs.size (.tup [.int i,x])) { s with heap:=h2,toks:=s.toks + 1 }:=by
      have nn:∀ {b:Addr},b < s.heap.objs.size -> H b = none -> upd H s.heap.objs.size (.tup [.int i,x]) b = none:=fun {b} hb e => by rw [upd_ne (Nat.ne_of_lt hb)]; exact e
      have old:∀ {b:Addr} {o:HO},H b = some o -> upd H s.heap.objs.size (.tup [.int i,x]) b = some o:=fun {b o} e => by rw [upd_ne (ne_of_none e hTn)]; exact e
      refine ⟨I1.ok,I1.os,I1.bare,⟨I1.base.keep,I1.base.slot,fun b o q n hx => nn ?_ (I1.base.free b o q n hx),I1.base.there,fun b ys q => old (I1.base.tups b ys q),fun b o v q => old (I1.base.frzs b o v q),fun b ps q => ?_⟩,I1.loc,I1.cell,nn I.lt I1.free,fun y c q => nn ?_ (I1.freeC y c q),fun p hp => ?_,fun b o q => ?_,I1.len⟩
      . exact Nat.lt_of_lt_of_le (Heap.lt_size q) I.sz
      . obtain ⟨more,z⟩:=I1.base.tbls b ps q
        exact ⟨more,old z⟩
      . obtain ⟨v,z⟩:=I.cell y c q
        exact z.lt
      . obtain ⟨z1,z2,z3⟩:=I1.pin p hp
        exact ⟨z1,nn (Heap.lt_size (I.pin p hp).1) z2,z3⟩
      . by_cases hb:b = s.heap.objs.size
        . subst hb
          rw [upd_same] at q
          cases q
          exact ⟨by rw [sizeLine_eq]; simp,[.int i s.toks,u],.cons ⟨_,rfl⟩ (.cons ru .nil),_,hT2,rfl,_,rfl⟩
        . rw [upd_ne hb] at q
          exact (I1.hok b o q).stay (fun _ _ _ z => z) (fun c z => old z) fun c ys z => old z
    exact ⟨.ref s.heap.objs.size,_,I2,rfl,⟨s.heap.objs.size,x,rfl,hTn,rfl,fun ys hy => by rw [I.list_inj hy hq]; exact hx⟩,⟨⟨u,by simpa using he2⟩,hit'.at fun o q => (sb.2 it (Ne.symm hei)).trans q⟩,fun b hb => by
      rcases List.mem_cons.mp hb with rfl | hb
      . rw [upd_ne (Ne.symm hTe)]; exact f0
      . have hb:b = it:=by simpa using hb
        subst hb
        rw [upd_ne (Ne.symm hTi)]; exact g0⟩
  done:=by
    intro X hP hw hK hc i pins s σ H E I hf st hg
    subst hP hw hK
    obtain ⟨xs,hq,hx⟩:=hg
    obtain ⟨its,rv,p,hz⟩:=I.list hq
    obtain ⟨⟨old,he⟩,hit⟩:=st
    obtain ⟨g0,g1,g2,g3,g4,g5⟩:=hf it (by simp)
    have hl:=rv.length
    exact wpAny_pyNext_enum_end (I.ok.hd hc) he hit p.isList (by simp; omega) fun h' eb => ⟨rfl,I.turned (t':=s.toks) (fun b o hb e => eb b o hb e) g0 g1 g3 g4 g5⟩
  self:=fun _ _ _ _ _ ⟨⟨_,he⟩,_⟩ h => wpAny_pyIter_enum he h
noncomputable def iEnum (K:PySem.W.Frag) (tl:TA):TI:=fun σ H R => tl σ H fun vs H1 => ∃ a,vs = [.ref a] /\ (∃ xs,SqL K H1 a xs) /\ R (Ite K a) H1
theorem pi_enum {l:Expr} {tl:TA} {elts:List Expr} {k1:Nat} {tpos p pos:Pos} (hg:Gl X "enumerate") (hm:X.mg "enumerate" = none) (ha:PA X [l] tl) (hs:starEach [l] X.env = [(false,eval l X.env)]:=by rfl) :
    PI X (.Tuple elts k1 tpos) (.Call (.Name "enumerate" p) [l] [] pos) (iEnum X.K tl):=by
  intro pins s σ H R I h
  refine Call_ (ld_blt I hg hm bt_enumerate (PyProof.Rows.callWith_type1 (thn (ha pos pins s σ H _ I h) fun us s1 ⟨vs,H1,I1,r1,q1⟩ => ?_) hs rfl))
  obtain ⟨a,e,⟨xs,hq⟩,q⟩:=q1
  subst e
  cases r1 with
  | cons r rr =>
    cases rr
    cases r
    obtain ⟨its,rv,p,hz⟩:=I1.list hq
    refine call_enumerate_list p.isList fun h' he hit hsz kp => ?_
    refine wpAny_pyIter_enum he ?_
    have I2:Inv X pins σ H1 { s1 with heap:=h' }:=I1.kept (t':=s1.toks) kp
    refine ⟨_,[s1.heap.objs.size + 1,s1.heap.objs.size],_,_,H1,rfl,I2,turn_enum a _ _ (Nat.ne_of_gt (Nat.lt_succ_self _)),⟨⟨_,he⟩,hit⟩,fun b hb => ?_,q⟩
    rcases List.mem_cons.mp hb with rfl | hb
    . exact I1.fpOk (Nat.le_succ _) (I1.hok.fresh (Nat.le_succ _))
    . have hb:b = s1.heap.objs.size:=by simpa using hb
      subst hb
      exact I1.fpOk (Nat.le_refl _) (I1.hok.fresh (Nat.le_refl _))
noncomputable def SetS (w:World) (a:Addr) (xs:List Str):HO:=.ext fun h => TxSet w h a xs
theorem vals_strs:∀ {xs:List Str} {us:List Value},Vals (xs.map V.str) us -> StrsAre us xs
  | [],_,.nil => .nil
  | x :: xs,_,.cons r t => by
    obtain ⟨tk,rfl⟩:=r
    exact .cons x tk (vals_strs t)
theorem strs_vals:∀ {us:List Value} {xs:List Str},StrsAre us xs -> Vals (xs.map V.str) us
  | _,_,.nil => .nil
  | _,_,.cons x t h => .cons ⟨t,rfl⟩ (strs_vals h)
noncomputable def rSetS (w:World):List V -> Hp -> VK -> Prop:=fun vs H Q => ∃ (p:Addr) (xs:List Str),vs = [.ref p] /\ H p = some (.lst (xs.map V.str)) /\ xs.length <= 4000 /\ ∀ (l:Addr) (ys:List Str),H l = none -> ys.Nodup -> (∀ z,z ∈ ys ↔ z ∈ xs) -> Q (.ref l) (upd H l (SetS w l ys))
theorem call_setS (hc:X.calm = true):CallR X (.type "set") (rSetS X.w):=by
  intro pins s σ H vs us Q I r h
  obtain ⟨p,xs,rfl,hp,hl,q⟩:=h
  obtain ⟨u,rfl,ru⟩:=r.one
  cases ru
  obtain ⟨z,its,n,rv,hlen,e⟩:=I.lstM hp
  have hst:=vals_strs rv
  refine set_texts (items:=its.toArray) (xs:=xs) (I.ok.hd hc) ⟨_,e,rfl,n,rfl⟩ (fun i v hv => ?_) (by rw [List.size_toArray,← hlen,List.length_map]) (by unfold scanBound; omega) fun h' tk ys ht hm kp => ?_
  . have hv:its[i]? = some v:=by simpa using hv
    have hi:i < xs.length:=by
      have:=(List.getElem?_eq_some_iff.mp hv).1
      rw [← hlen,List.length_map] at this
      exact this
    obtain ⟨u,e1,r1⟩:=rv.get (i:=i) (x:=.str xs[i]) (by simp [hi])
    rw [hv] at e1
    cases e1
    obtain ⟨t,rfl⟩:=r1
    exact ⟨t,by simp [List.getD,hi]⟩
  . have hnd:ys.Nodup:=by obtain ⟨_,_,_,_,_,_,nd,_⟩:=ht; exact nd
    have hex:∃ o,h'.get? s.heap.objs.size = some o:=by obtain ⟨es,ep,t,g,_⟩:=ht; exact ⟨_,g⟩
    refine ⟨.ref s.heap.objs.size,_,I.laid (o:=SetS X.w s.heap.objs.size ys) (fun b o e => kp b o (Heap.lt_size e) e) (Nat.le_refl _) ⟨ht,hex,fun h1 h2 x k => x.at k⟩,rfl,q _ ys (I.hok.fresh (Nat.le_refl _)) hnd hm⟩
noncomputable def SortOf (w:World) (H:Hp) (p:Addr) (xs:List Str):Prop:=H p = some (SetS w p xs) ∨ H p = some (.lst (xs.map V.str)) ∨ ∃ kvs:List (Key×V),H p = some (.dK kvs) /\ kvs.map (·.1) = xs.map Sum.inr
noncomputable def rSortS (w:World):List V -> Hp -> VK -> Prop:=fun vs H Q => ∃ (p:Addr) (xs:List Str),vs = [.ref p] /\ SortOf w H p xs /\ xs.length < 64 /\ ∀ (l:Addr) (ys:List Str),H l = none -> ys.Perm xs -> sortedS ys = true -> Q (.ref l) (upd H l (.lst (ys.map V.str)))
theorem call_sortS (hc:X.calm = true):CallR X (.builtin "sorted") (rSortS X.w):=by
  intro pins s σ H vs us Q I r h
  obtain ⟨p,xs,rfl,hp,hl,q⟩:=h
  obtain ⟨u,rfl,ru⟩:=r.one
  cases ru
  have fin:∀ h' d tk L its ys n,s.heap.objs.size <= L -> StrsAre its ys -> ys.Perm xs -> sortedS ys = true -> h'.get? L = some (seqObj "list" its.toArray n) -> (∀ b o,s.heap.get? b = some o -> h'.get? b = some o) -> EP X pins σ Q (.ref L) { s with heap:=h',drawn:=d,toks:=tk }:=fun h' d tk L its ys n hL hS hP hO g kp => by
    have I1:=(I.dr d).laid (h':=h') (a:=L) (o:=.lst (ys.map V.str)) (t':=tk) kp hL ⟨by
      have:=hP.length_eq
      rw [List.length_map,sizeLine_eq]
      omega,its,n,strs_vals hS,g⟩
    exact ⟨.ref L,_,I1,rfl,q L ys (I.hok.fresh hL) hP hO⟩
  rcases hp with hp | hp | ⟨kvs,hp,hk⟩
  . exact sorted_tx (I.ok.hd hc) (show TxSet X.w s.heap p xs from (I.hok p _ hp).1) hl fin
  . obtain ⟨z,its,n,rv,hlen,e⟩:=I.lstM hp
    refine sorted_col hl (fun A' Q' hA k => collect_list (vs:=its) ⟨_,e,rfl,n,rfl⟩ ?_ (by rw [← hlen]; exact z)) fin
    refine k its _ s.drawn s.toks ⟨xs,vals_strs rv,.refl _⟩ (fun b o q => ?_) ?_
    . have hb:b ≠ s.heap.objs.size:=Nat.ne_of_lt (Heap.lt_size q)
      exact (Heap.get?_update_other _ _ (Ne.symm hb)).trans (Heap.get?_push_of_some _ q)
    . rw [Heap.size_update,size_push']
      exact Nat.le_succ _
  . obtain ⟨z,hd,vs',rel,dd⟩:=dk_of I.hok hp
    obtain ⟨ep,dd⟩:=dd.dictAt
    refine sorted_col hl (fun A' Q' hA k => collect_keys (hA.trans (I.ok.hd hc)) hd dd (by rw [← rel.length]; exact z) fun vs h' tk hn hv kp hge => ?_) fin
    refine k vs h' s.drawn tk ⟨xs,?_,.refl _⟩ kp hge
    have hxl:xs.length = vs.length:=by
      have:=congrArg List.length hk
      rw [List.length_map,List.length_map] at this
      rw [hn,← rel.length,this]
    have all:∀ (i:Nat) (v:Value),vs[i]? = some v -> ∃ x t,xs[i]? = some x /\ v = .str x t:=fun i v e => by
      obtain ⟨k',x',e1,e2⟩:=hv i v e
      have e3:(vs'.map (·.1))[i]? = some k':=by rw [List.getElem?_map,e1]; rfl
      rw [← rel.keys,hk,List.getElem?_map] at e3
      cases e4:xs[i]? with
      | none => rw [e4] at e3; cases e3
      | some y =>
        rw [e4] at e3
        have e5:Sum.inr y = k':=Option.some.inj e3
        subst e5
        obtain ⟨t,rfl⟩:=key_rel e2
        exact ⟨y,t,rfl,rfl⟩
    have go:∀ (us:List Value) (ys:List Str),ys.length = us.length -> (∀ (i:Nat) (v:Value),us[i]? = some v -> ∃ x t,ys[i]? = some x /\ v = .str x t) -> StrsAre us ys:=by
      intro us
      induction us with
      | nil =>
        intro ys hl _
        have:ys = []:=List.length_eq_zero_iff.mp hl
        subst this
        exact .nil
      | cons u us ih =>
        intro ys hl ha
        cases ys with
        | nil => cases hl
        | cons y ys =>
          obtain ⟨x,t,e1,rfl⟩:=ha 0 u rfl
          cases e1
          exact .cons y t (ih ys (by simpa using hl) fun i v e => by simpa using ha (i + 1) v (by simpa using e))
    exact go vs xs hxl all
noncomputable abbrev PairsAt (H:Hp):List V -> List (Key×V) -> Prop:=Paired fun v kv => ∃ a,v = .ref a /\ H a = some (.tup [kV kv.1,kv.2])
noncomputable def rDictP:List V -> Hp -> VK -> Prop:=fun vs H Q => ∃ (p:Addr) (ts:List V) (kvs:List (Key×V)),vs = [.ref p] /\ H p = some (.lst ts) /\ PairsAt H ts kvs /\ ts.length <= 1000 /\ ∀ l:Addr,H l = none -> Q (.ref l) (upd H l (.dK (mergeK [] kvs)))
theorem Paired.at {α β:Type} {F:α -> β -> Prop}:∀ {xs:List α} {ys:List β} {i:Nat} {x:α},Paired F xs ys -> xs[i]? = some x -> ∃ y,ys[i]? = some y /\ F x y
  | _,_,_,_,.nil,e => by simp at e
  | _,_,0,_,.cons r _,e => by simp at e; subst e; exact ⟨_,rfl,r⟩
  | _,_,i + 1,x,.cons _ t,e => by
    obtain ⟨y,h1,h2⟩:=Paired.at (i:=i) (x:=x) t (by simpa using e)
    exact ⟨y,by simpa using h1,h2⟩
theorem pairs_vals {H:Hp} {h:Heap} {P:Program} {w:World} (ok:HOk P w H h):∀ {ts:List V} {kvs:List (Key×V)} {its:List Value},PairsAt H ts kvs -> Vals ts its ->
    ∃ ps:List (Key×Value),KV kvs ps /\ Paired (fun v p => ∃ a key,v = Value.ref a /\ h.IsTuple a #[key,p.2] /\ (mixKind P w).is p.1 key = true) its ps
  | _,_,_,.nil,.nil => ⟨[],.nil,.nil⟩
  | _,_,_,.cons (b:=kv) ⟨a,e,g⟩ t,.cons r rt => by
    obtain ⟨ps,h1,h2⟩:=pairs_vals ok t rt
    subst e
    cases r
    obtain ⟨_,its,rv,tp⟩:=ok a _ g
    cases rv with
    | cons r1 rv =>
      cases rv with
      | cons r2 rv =>
        cases rv
        rename_i k1 x1
        exact ⟨(kv.1,x1) :: ps,.cons ⟨rfl,r2⟩ h1,.cons ⟨a,k1,rfl,tp,kV_is r1⟩ h2⟩
theorem laid_merge:∀ {kvs:List (Key×V)} {ps:List (Key×Value)} {m:List (Key×V)} {n:List (Key×Value)},KV kvs ps -> KV m n -> KV (mergeK m kvs) (laidAll n ps)
  | _,_,_,_,.nil,r => r
  | _,_,m,n,.cons (a:=p) (b:=q) ⟨e,rv⟩ t,r => by
    show KV (mergeK (putK m p.1 p.2) _) (laidAll (stored n q.1 q.2) _)
    refine laid_merge t ?_
    rw [← e]
    exact r.put p.1 rv
theorem call_dictP (hc:X.calm = true):CallR X (.type "dict") rDictP:=by
  intro pins s σ H vs us Q I r h
  obtain ⟨p,ts,kvs,rfl,hp,hpr,hl,q⟩:=h
  obtain ⟨u,rfl,ru⟩:=r.one
  cases ru
  obtain ⟨z,its,n,rv,hlen,e⟩:=I.lstM hp
  obtain ⟨ps,h1,h2⟩:=pairs_vals I.hok hpr rv
  have hps:its.length = ps.length:=h2.length
  refine dict_pairs (knd:=mixKind X.prog X.w) (ps:=ps) (I.ok.hd hc) e (by rw [List.size_toArray]; exact hps) (fun h' i v hv kp => ?_) (by rw [← hps,← hlen]; exact hl) fun h' tk hd kp => ?_
  . obtain ⟨y,e1,a,key,rfl,tp,hk⟩:=Paired.at h2 (show its[i]? = some v by simpa using hv)
    obtain ⟨o,g,r⟩:=tp
    exact ⟨a,key,y.1,y.2,rfl,⟨o,kp _ _ g,r⟩,e1,hk⟩
  . have rel:=laid_merge h1 (.nil:KV [] [])
    refine ⟨.ref s.heap.objs.size,_,I.laid (o:=.dK (mergeK [] kvs)) kp (Nat.le_refl _) (dk_new ?_ (beq_eq_false_iff_ne.mpr (Ne.symm (Nat.ne_of_lt I.big))) rel hd),rfl,q _ (I.hok.fresh (Nat.le_refl _))⟩
    have h3:=length_mergeK kvs []
    have h4:ts.length = kvs.length:=hpr.length
    simp at h3
    rw [sizeLine_eq]
    omega
end
end L2
namespace L2
open PySem PySem.Spec PyProof.Rows
section
variable {X:Cx}
noncomputable def rSetDef:V -> List V -> Hp -> VK -> Prop:=fun x vs H Q => ∃ (a:Addr) (kvs:List (Key×V)) (k:Key) (d:V),x = .ref a /\ vs = [kV k,d] /\ H a = some (.dK kvs) /\ kvs.length <= 1000 /\ (∀ v,valV kvs k = some v -> Q v H) /\ (valV kvs k = none -> Q d (upd H a (.dK (kvs ++ [(k,d)]))))
theorem mt_setdef:MtR X "dict.setdefault" rSetDef:=by
  intro pins s σ H x vs v us Q I rx rv h
  obtain ⟨a,kvs,k,d,rfl,rfl,ha,hl,h1,h2⟩:=h
  cases rx
  obtain ⟨u1,u2,rfl,r1,r2⟩:=Vals.two rv
  obtain ⟨z,hs,ws,rel,dd⟩:=dk_of I.hok ha
  have hrel:=rel.val k
  refine call_setdef (kV_is r1) hs dd (by rw [← rel.length]; exact z) (fun w e => ?_) fun e h' dd' sb => ?_
  . rw [e] at hrel
    cases ev:valV kvs k with
    | none => rw [ev] at hrel; exact hrel.elim
    | some v =>
      rw [ev] at hrel
      exact ⟨v,H,I.tok _,hrel,h1 v ev⟩
  . rw [e] at hrel
    have ev:valV kvs k = none:=by
      cases ev:valV kvs k with
      | none => rfl
      | some v => rw [ev] at hrel; exact hrel.elim
    have he:∃ q,h'.get? a = some q:=let ⟨q,_,_,hq,_⟩:=dd'; ⟨q,hq⟩
    refine ⟨d,_,d_write (t':=s.toks + 1) I (by rw [ha]; exact True.intro) sb he (dk_new ?_ hs (show KV (kvs ++ [(k,d)]) (ws ++ [(k,u2)]) from ?_) dd'),r2,h2 ev⟩
    . rw [List.length_append,List.length_singleton,sizeLine_eq]
      omega
    . have:∀ {p:List (Key×V)} {q:List (Key×Value)},KV p q -> KV (p ++ [(k,d)]) (q ++ [(k,u2)]):=fun {p q} r => by
        induction r with
        | nil => exact .cons ⟨rfl,r2⟩ .nil
        | cons r _ ih => exact .cons r ih
      exact this rel
noncomputable def rSlS:V -> Option Int -> Option Int -> Hp -> VK -> Prop:=fun x lo hi H Q => ∃ z:Str,x = .str z /\ z.length <= sizeLine /\ Q (.str (Txt.slice z lo hi)) H
theorem part_of {v:Value} {lo:Option Int} (h:IsPart v lo):∃ l:Option (Int×Tok),l.map (·.1) = lo /\ v = partValue l:=by
  cases h with
  | none => exact ⟨none,rfl,rfl⟩
  | int i t => exact ⟨some (i,t),rfl,rfl⟩
theorem sl_str:SlR X rSlS:=by
  intro pins s σ H x v vl vu lo hi sl Q I rx hs pl pu h
  obtain ⟨z,rfl,hz,q⟩:=h
  obtain ⟨t,rfl⟩:=rx
  obtain ⟨l,e1,rfl⟩:=part_of pl
  obtain ⟨u,e2,rfl⟩:=part_of pu
  subst e1 e2
  refine ⟨"str",_,F.slot_str_getitem.lookup,typeIs_str _ _ _,wpAny_getItem_str_slice (l:=l) (u:=u) (st:=none) ?_ rfl (post_val_or_str ?_)⟩
  . obtain ⟨o,a,b,c⟩:=hs
    exact ⟨o,a,b,c⟩
  . exact ⟨Nat.le_trans (Txt.slice_le z _ _) hz,fun t' k => ⟨.str _,H,I.tok _,⟨_,rfl⟩,q⟩⟩
end
end L2
namespace L2
section
variable {α:Type} [DecidableEq α]
noncomputable abbrev RunD (α:Type):=α×α×Rat
noncomputable abbrev EntD (α:Type):=Rat×Option (Nat×α)
noncomputable abbrev AL (α β:Type):=List (α×β)
noncomputable def aget {β:Type} (l:AL α β) (k:α):Option β:=(l.find? fun kv => decide (kv.1 = k)).map (·.2)
noncomputable def aput {β:Type} (l:AL α β) (k:α) (v:β):AL α β:=if (l.any fun kv => decide (kv.1 = k)) then l.map (fun kv => if kv.1 = k then (kv.1,v) else kv) else l ++ [(k,v)]
noncomputable def adrop {β:Type} (l:AL α β) (k:α):AL α β:=l.filter fun kv => decide (kv.1 ≠ k)
theorem aget_mem {β:Type} {l:AL α β} {k:α} {v:β} (h:aget l k = some v):(k,v) ∈ l:=by
  unfold aget at h
  rw [Option.map_eq_some_iff] at h
  obtain ⟨kv,h1,h2⟩:=h
  have h3:=List.find?_some h1
  have h4:=List.mem_of_find?_eq_some h1
  simp at h3
  obtain ⟨a,b⟩:=kv
  simp at h2 h3
  subst h2 h3
  exact h4
theorem aget_none {β:Type} {l:AL α β} {k:α} (h:aget l k = none):∀ v,(k,v) ∉ l:=by
  intro v hm
  unfold aget at h
  rw [Option.map_eq_none_iff,List.find?_eq_none] at h
  have:=h _ hm
  simp at this
theorem aget_of {β:Type} {l:AL α β} {k:α} {v:β} (nd:(l.map (·.1)).Nodup) (h:(k,v) ∈ l):aget l k = some v:=by
  cases e:aget l k with
  | none => exact absurd h (aget_none e v)
  | some u =>
    have h2:=aget_mem e
    induction l with
    | nil => cases h
    | cons x r ih =>
      rw [List.map_cons,List.nodup_cons] at nd
      rcases List.mem_cons.mp h with rfl | h'
      . rcases List.mem_cons.mp h2 with h3 | h3
        . cases h3; rfl
        . exact absurd (List.mem_map.mpr ⟨_,h3,rfl⟩) nd.1
      . rcases List.mem_cons.mp h2 with h3 | h3
        . subst h3
          exact absurd (List.mem_map.mpr ⟨_,h',rfl⟩) nd.1
        . have e':aget r k = some u:=by
            unfold aget at e ⊢
            rw [List.find?_cons] at e
            have:(decide (x.1 = k)) = false:=by
              apply decide_eq_false
              intro z
              subst z
              exact nd.1 (List.mem_map.mpr ⟨_,h',rfl⟩)
            rw [this] at e
            exact e
          exact ih nd.2 h' e' h3
theorem mem_aput {β:Type} {l:AL α β} {k:α} {v:β} {x:α} {y:β} (h:(x,y) ∈ aput l k v):(x = k /\ y = v) ∨ (x ≠ k /\ (x,y) ∈ l):=by
  unfold aput at h
  split at h
  . rw [List.mem_map] at h
    obtain ⟨kv,h1,h2⟩:=h
    split at h2
    . rename_i e
      cases h2
      exact .inl ⟨e,rfl⟩
    . rename_i e
      subst h2
      exact .inr ⟨e,h1⟩
  . rename_i e
    rcases List.mem_append.mp h with h1 | h1
    . refine .inr ⟨?_,h1⟩
      rintro rfl
      apply e
      rw [List.any_eq_true]
      exact ⟨_,h1,by simp⟩
    . rw [List.mem_singleton] at h1
      cases h1
      exact .inl ⟨rfl,rfl⟩
theorem aput_mem {β:Type} {l:AL α β} {k:α} {v:β}:(k,v) ∈ aput l k v:=by
  unfold aput
  split
  . rename_i e
    rw [List.any_eq_true] at e
    obtain ⟨kv,h1,h2⟩:=e
    rw [List.mem_map]
    refine ⟨kv,h1,?_⟩
    have:=of_decide_eq_true h2
    rw [if_pos this,this]
  . exact List.mem_append_right _ (List.mem_singleton.mpr rfl)
theorem aput_old {β:Type} {l:AL α β} {k:α} {v:β} {x:α} {y:β} (hx:x ≠ k) (h:(x,y) ∈ l):(x,y) ∈ aput l k v:=by
  unfold aput
  split
  . rw [List.mem_map]
    exact ⟨_,h,by rw [if_neg hx]⟩
  . exact List.mem_append_left _ h
theorem aput_nd {β:Type} {l:AL α β} {k:α} {v:β} (nd:(l.map (·.1)).Nodup):((aput l k v).map (·.1)).Nodup:=by
  unfold aput
  split
  . rw [List.map_map]
    have:((fun x => x.1) ∘ fun (kv:α×β) => if kv.1 = k then (kv.1,v) else kv) = fun kv => kv.1:=by
      funext kv
      simp only [Function.comp]
      split <;> rfl
    rw [this]
    exact nd
  . rename_i e
    rw [List.map_append,List.nodup_append]
    refine ⟨nd,by simp,?_⟩
    intro a ha b hb
    simp at hb
    subst hb
    rintro rfl
    apply e
    rw [List.mem_map] at ha
    obtain ⟨kv,h1,h2⟩:=ha
    rw [List.any_eq_true]
    exact ⟨kv,h1,by simp [h2]⟩
theorem aput_keys {β:Type} {l:AL α β} {k:α} {v:β} {x:α} (h:x ∈ (aput l k v).map (·.1)):x = k ∨ x ∈ l.map (·.1):=by
  rw [List.mem_map] at h
  obtain ⟨⟨a,b⟩,h1,rfl⟩:=h
  rcases mem_aput h1 with ⟨e,_⟩ | ⟨_,e⟩
  . exact .inl e
  . exact .inr (List.mem_map.mpr ⟨_,e,rfl⟩)
theorem mem_adrop {β:Type} {l:AL α β} {k:α} {x:α×β}:x ∈ adrop l k ↔ x ∈ l /\ x.1 ≠ k:=by
  unfold adrop
  rw [List.mem_filter]
  simp
theorem adrop_nd {β:Type} {l:AL α β} {k:α} (nd:(l.map (·.1)).Nodup):((adrop l k).map (·.1)).Nodup:=by
  unfold adrop
  exact nd.sublist (List.filter_sublist.map _)
noncomputable def Jn (r:RunD α) (q p:α):Prop:=(r.1 = q /\ r.2.1 = p) ∨ (r.2.1 = q /\ r.1 = p)
noncomputable def NotOut (tk:Nat -> Option Rat) (k:Nat) (t:Rat):Prop:=∀ u,tk k = some u -> t <= u
theorem NotOut.le {tk:Nat -> Option Rat} {k:Nat} {s t:Rat} (h:NotOut tk k t) (l:s <= t):NotOut tk k s:=fun u e => Rat.le_trans l (h u e)
variable (net:List (RunD α)) (push:α -> Option Rat) (tk:Nat -> Option Rat)
inductive Arr:α -> Rat -> Prop
  | push {p t}:push p = some t -> Arr p t
  | run {q s p k r}:Arr q s -> net[k]? = some r -> Jn r q p -> NotOut tk k (s + r.2.2) -> Arr p (s + r.2.2)
structure Falls (m:α -> Option Rat):Prop where
  arr:∀ p t,m p = some t -> Arr net push tk p t
  le:∀ p t,Arr net push tk p t -> ∃ u,m p = some u /\ u <= t
variable {net push tk}
theorem Falls.uniq {m m':α -> Option Rat} (h:Falls net push tk m) (h':Falls net push tk m'):m = m':=by
  have key:∀ {m m':α -> Option Rat},Falls net push tk m -> Falls net push tk m' -> ∀ p t,m p = some t -> ∃ u,m' p = some u /\ u <= t:=fun h h' p t e => h'.le p t (h.arr p t e)
  funext p
  cases e:m p with
  | none =>
    cases e':m' p with
    | none => rfl
    | some u =>
      obtain ⟨w,e2,_⟩:=key h' h p u e'
      rw [e] at e2
      cases e2
  | some t =>
    obtain ⟨u,e1,l1⟩:=key h h' p t e
    obtain ⟨w,e2,l2⟩:=key h' h p u e1
    rw [e] at e2
    cases e2
    rw [e1]
    exact congrArg some (Rat.le_antisymm l2 l1)
noncomputable def Sup (net:List (RunD α)) (push:α -> Option Rat) (tk:Nat -> Option Rat) (F:AL α (EntD α)) (p:α):EntD α -> Prop
  | (t,none) => push p = some t
  | (t,some (k,q)) => ∃ r e,net[k]? = some r /\ Jn r q p /\ (q,e) ∈ F /\ t = e.1 + r.2.2 /\ NotOut tk k t
theorem Sup.mono {F F':AL α (EntD α)} {p:α} {e:EntD α} (h:Sup net push tk F p e) (s:∀ x ∈ F,x ∈ F'):Sup net push tk F' p e:=by
  obtain ⟨t,o⟩:=e
  cases o with
  | none => exact h
  | some kq =>
    obtain ⟨r,e,a,b,c,d⟩:=h
    exact ⟨r,e,a,b,s _ c,d⟩
noncomputable def Has (W F:AL α (EntD α)) (p:α) (t:Rat):Prop:=∃ e,((p,e) ∈ W ∨ (p,e) ∈ F) /\ e.1 <= t
structure FInv (net:List (RunD α)) (push:α -> Option Rat) (tk:Nat -> Option Rat) (C:α -> Nat -> α -> Prop) (W F:AL α (EntD α)):Prop where
  ndW:(W.map (·.1)).Nodup
  ndF:(F.map (·.1)).Nodup
  dis:∀ p,p ∈ W.map (·.1) -> p ∉ F.map (·.1)
  sup:∀ p e,(p,e) ∈ W -> Sup net push tk F p e
  ord:∀ i p e,F[i]? = some (p,e) -> Sup net push tk (F.take i) p e
  mono:∀ f ∈ F,∀ w ∈ W,f.2.1 <= w.2.1
  psh:∀ p t,push p = some t -> Has W F p t
  clo:∀ q e,(q,e) ∈ F -> ∀ k r p,net[k]? = some r -> Jn r q p -> C q k p -> NotOut tk k (e.1 + r.2.2) -> Has W F p (e.1 + r.2.2)
theorem FInv.start {W:AL α (EntD α)} {C:α -> Nat -> α -> Prop} (nd:(W.map (·.1)).Nodup) (h:∀ p e,(p,e) ∈ W -> e.2 = none /\ push p = some e.1) (h2:∀ p t,push p = some t -> (p,(t,none)) ∈ W):FInv net push tk C W []:=by
  refine ⟨nd,by simp,fun _ _ => by simp,fun p e he => ?_,fun i p e he => by simp at he,fun f hf => by simp at hf,fun p t e => ⟨_,.inl (h2 p t e),Rat.le_refl⟩,fun q e he => by simp at he⟩
  obtain ⟨t,o⟩:=e
  obtain ⟨rfl,z⟩:=h p _ he
  exact z
theorem FInv.pop {W F:AL α (EntD α)} {p:α} {e:EntD α} {C:α -> Nat -> α -> Prop} (I:FInv net push tk (fun _ _ _ => True) W F) (hp:(p,e) ∈ W) (hm:∀ w ∈ W,e.1 <= w.2.1) (hC:∀ q k x,C q k x -> q ≠ p):FInv net push tk C (adrop W p) (F ++ [(p,e)]):=by
  have hpF:p ∉ F.map (·.1):=I.dis p (List.mem_map.mpr ⟨_,hp,rfl⟩)
  have has:∀ {x t},Has W F x t -> Has (adrop W p) (F ++ [(p,e)]) x t:=fun {x t} ⟨u,h1,h2⟩ => by
    rcases h1 with h1 | h1
    . by_cases hx:x = p
      . subst hx
        have:u = e:=Option.some.inj ((aget_of I.ndW h1).symm.trans (aget_of I.ndW hp))
        subst this
        exact ⟨u,.inr (by simp),h2⟩
      . exact ⟨u,.inl (mem_adrop.mpr ⟨h1,hx⟩),h2⟩
    . exact ⟨u,.inr (List.mem_append_left _ h1),h2⟩
  refine ⟨adrop_nd I.ndW,?_,fun x hx => ?_,fun x u hu => ?_,fun i x u hi => ?_,fun f hf w hw => ?_,fun x t hx => has (I.psh x t hx),fun q u hq k r x h1 h2 h3 h4 => ?_⟩
  . rw [List.map_append,List.nodup_append]
    refine ⟨I.ndF,by simp,fun a ha b hb => ?_⟩
    simp at hb
    subst hb
    rintro rfl
    exact hpF ha
  . rw [List.mem_map] at hx
    obtain ⟨y,hy,rfl⟩:=hx
    have hy:=mem_adrop.mp hy
    rw [List.map_append,List.mem_append]
    rintro (z | z)
    . exact I.dis _ (List.mem_map.mpr ⟨_,hy.1,rfl⟩) z
    . simp at z
      exact hy.2 z
  . exact (I.sup x u (mem_adrop.mp hu).1).mono fun y hy => List.mem_append_left _ hy
  . by_cases hi2:i < F.length
    . rw [List.getElem?_append_left hi2] at hi
      rw [List.take_append_of_le_length (Nat.le_of_lt hi2)]
      exact I.ord i x u hi
    . rw [List.getElem?_append_right (by omega)] at hi
      have:i - F.length = 0:=by
        cases e2:i - F.length with
        | zero => rfl
        | succ n => rw [e2] at hi; simp at hi
      have hi3:i = F.length:=by omega
      subst hi3
      simp at hi
      obtain ⟨rfl,rfl⟩:=hi
      rw [List.take_left]
      exact I.sup _ _ hp
  . have hw:=mem_adrop.mp hw
    rcases List.mem_append.mp hf with hf | hf
    . exact I.mono f hf w hw.1
    . simp at hf
      subst hf
      exact hm w hw.1
  . rcases List.mem_append.mp hq with hq | hq
    . exact has (I.clo q u hq k r x h1 h2 trivial h4)
    . simp at hq
      exact absurd hq.1 (hC _ _ _ h3)
theorem FInv.turn {W F:AL α (EntD α)} {p x:α} {e:EntD α} {k:Nat} {r:RunD α} {C C':α -> Nat -> α -> Prop} (I:FInv net push tk C W F) (hp:(p,e) ∈ F) (hr:net[k]? = some r) (hj:Jn r p x) (hle:∀ w ∈ F,w.2.1 <= e.1) (h0:0 < r.2.2)
    (hC:∀ q j y,C' q j y -> C q j y ∨ (q = p /\ j = k /\ y = x)) {W':AL α (EntD α)}
    (hW:(W' = W /\ (x ∈ F.map (·.1) ∨ ¬ NotOut tk k (e.1 + r.2.2) ∨ ∃ u,(x,u) ∈ W /\ u.1 <= e.1 + r.2.2)) ∨
      (x ∉ F.map (·.1) /\ NotOut tk k (e.1 + r.2.2) /\ (∀ u,(x,u) ∈ W -> e.1 + r.2.2 <= u.1) /\ W' = aput W x (e.1 + r.2.2,some (k,p)))):FInv net push tk C' W' F:=by
  rcases hW with ⟨rfl,h⟩ | ⟨hxF,hno,hu,rfl⟩
  . refine ⟨I.ndW,I.ndF,I.dis,I.sup,I.ord,I.mono,I.psh,fun q u hq j r' y h1 h2 h3 h4 => ?_⟩
    rcases hC q j y h3 with h3 | ⟨rfl,rfl,rfl⟩
    . exact I.clo q u hq j r' y h1 h2 h3 h4
    . rw [hr] at h1
      cases h1
      have:u = e:=Option.some.inj ((aget_of I.ndF hq).symm.trans (aget_of I.ndF hp))
      subst this
      rcases h with h | h | ⟨w,h5,h6⟩
      . rw [List.mem_map] at h
        obtain ⟨⟨a,b⟩,h5,rfl⟩:=h
        refine ⟨b,.inr h5,?_⟩
        have:=hle _ h5
        simp only at this
        grind
      . exact absurd h4 h
      . exact ⟨w,.inl h5,h6⟩
  . have has:∀ {y t},Has W F y t -> Has (aput W x (e.1 + r.2.2,some (k,p))) F y t:=fun {y t} ⟨u,h1,h2⟩ => by
      rcases h1 with h1 | h1
      . by_cases hy:y = x
        . subst hy
          exact ⟨_,.inl aput_mem,Rat.le_trans (hu u h1) h2⟩
        . exact ⟨u,.inl (aput_old hy h1),h2⟩
      . exact ⟨u,.inr h1,h2⟩
    refine ⟨aput_nd I.ndW,I.ndF,fun y hy => ?_,fun y u hy => ?_,I.ord,fun f hf w hw => ?_,fun y t hy => has (I.psh y t hy),fun q u hq j r' y h1 h2 h3 h4 => ?_⟩
    . rcases aput_keys hy with rfl | hy
      . exact hxF
      . exact I.dis y hy
    . rcases mem_aput hy with ⟨rfl,rfl⟩ | ⟨_,hy⟩
      . exact ⟨r,e,hr,hj,hp,rfl,hno⟩
      . exact I.sup y u hy
    . obtain ⟨y,u⟩:=w
      rcases mem_aput hw with ⟨rfl,rfl⟩ | ⟨_,hy⟩
      . have:=hle f hf
        show f.2.1 <= e.1 + r.2.2
        grind
      . exact I.mono f hf _ hy
    . rcases hC q j y h3 with h3 | ⟨rfl,rfl,rfl⟩
      . exact has (I.clo q u hq j r' y h1 h2 h3 h4)
      . rw [hr] at h1
        cases h1
        have:u = e:=Option.some.inj ((aget_of I.ndF hq).symm.trans (aget_of I.ndF hp))
        subst this
        exact ⟨_,.inl aput_mem,Rat.le_refl⟩
structure FOrd (net:List (RunD α)) (push:α -> Option Rat) (tk:Nat -> Option Rat) (F:AL α (EntD α)):Prop where
  nd:(F.map (·.1)).Nodup
  ord:∀ i p e,F[i]? = some (p,e) -> Sup net push tk (F.take i) p e
  psh:∀ p t,push p = some t -> ∃ e,(p,e) ∈ F /\ e.1 <= t
  clo:∀ q e,(q,e) ∈ F -> ∀ k r p,net[k]? = some r -> Jn r q p -> NotOut tk k (e.1 + r.2.2) -> ∃ u,(p,u) ∈ F /\ u.1 <= e.1 + r.2.2
theorem FInv.done {F:AL α (EntD α)} (I:FInv net push tk (fun _ _ _ => True) [] F):FOrd net push tk F:=by
  refine ⟨I.ndF,I.ord,fun p t h => ?_,fun q e hq k r p h1 h2 h3 => ?_⟩
  . obtain ⟨e,h1,h2⟩:=I.psh p t h
    exact ⟨e,h1.resolve_left (by simp),h2⟩
  . obtain ⟨u,h4,h5⟩:=I.clo q e hq k r p h1 h2 trivial h3
    exact ⟨u,h4.resolve_left (by simp),h5⟩
noncomputable def momOf (F:AL α (EntD α)) (p:α):Option Rat:=(aget F p).map (·.1)
theorem FOrd.arr {F:AL α (EntD α)} (O:FOrd net push tk F):∀ (i:Nat) (p:α) (e:EntD α),F[i]? = some (p,e) -> Arr net push tk p e.1:=by
  intro i
  induction i using Nat.strongRecOn with
  | ind i ih =>
    intro p e hi
    have h:=O.ord i p e hi
    obtain ⟨t,o⟩:=e
    cases o with
    | none => exact .push h
    | some kq =>
      obtain ⟨k,q⟩:=kq
      obtain ⟨r,e,h1,h2,h3,h4,h5⟩:=h
      obtain ⟨j,hj⟩:=List.mem_iff_getElem?.mp h3
      rw [List.getElem?_take] at hj
      split at hj
      . rename_i hlt
        subst h4
        exact .run (ih j hlt q e hj) h1 h2 h5
      . cases hj
theorem FOrd.falls {F:AL α (EntD α)} (O:FOrd net push tk F):Falls net push tk (momOf F):=by
  refine ⟨fun p t h => ?_,fun p t h => ?_⟩
  . unfold momOf at h
    rw [Option.map_eq_some_iff] at h
    obtain ⟨e,h1,rfl⟩:=h
    obtain ⟨i,hi⟩:=List.mem_iff_getElem?.mp (aget_mem h1)
    exact O.arr i p e hi
  . induction h with
    | push h =>
      obtain ⟨e,h1,h2⟩:=O.psh _ _ h
      exact ⟨e.1,by unfold momOf; rw [aget_of O.nd h1]; rfl,h2⟩
    | run h1 h2 h3 h4 ih =>
      obtain ⟨u,h5,h6⟩:=ih
      unfold momOf at h5
      rw [Option.map_eq_some_iff] at h5
      obtain ⟨e,h7,rfl⟩:=h5
      rename_i q s p k r
      have hle:e.1 + r.2.2 <= s + r.2.2:=by grind
      obtain ⟨u,h8,h9⟩:=O.clo q e (aget_mem h7) k r p h2 h3 (h4.le hle)
      exact ⟨u.1,by unfold momOf; rw [aget_of O.nd h8]; rfl,Rat.le_trans h9 hle⟩
end
end L2
namespace L2
section
variable {α:Type} [DecidableEq α] {net:List (RunD α)} {push:α -> Option Rat} {tk:Nat -> Option Rat} {F:AL α (EntD α)}
end
end L2
namespace L2
section
variable {κ:Type} [DecidableEq κ]
noncomputable def lstep (m:AL κ Rat) (x:κ×Rat):AL κ Rat:=match aget m x.1 with
  | none => aput m x.1 x.2
  | some r => if x.2 < r then aput m x.1 x.2 else m
noncomputable def lst (l:List (κ×Rat)):AL κ Rat:=l.foldl lstep []
theorem lst_snoc (l:List (κ×Rat)) (x:κ×Rat):lst (l ++ [x]) = lstep (lst l) x:=by
  unfold lst
  rw [List.foldl_append]
  rfl
theorem lstep_nd {m:AL κ Rat} {x:κ×Rat} (h:(m.map (·.1)).Nodup):((lstep m x).map (·.1)).Nodup:=by
  unfold lstep
  split
  . exact aput_nd h
  . split
    . exact aput_nd h
    . exact h
theorem lstep_mem {m:AL κ Rat} {x:κ×Rat} {k:κ} {q:Rat} (h:(k,q) ∈ lstep m x):(k,q) ∈ m ∨ (k,q) = x:=by
  unfold lstep at h
  split at h
  . rcases mem_aput h with ⟨rfl,rfl⟩ | ⟨_,h⟩
    . exact .inr rfl
    . exact .inl h
  . split at h
    . rcases mem_aput h with ⟨rfl,rfl⟩ | ⟨_,h⟩
      . exact .inr rfl
      . exact .inl h
    . exact .inl h
theorem lst_rev (P:AL κ Rat -> Prop) (l:List (κ×Rat)) (h0:P []) (hs:∀ m x,x ∈ l -> P m -> P (lstep m x)):P (lst l):=by
  unfold lst
  have:∀ (l':List (κ×Rat)) (m:AL κ Rat),(∀ x ∈ l',x ∈ l) -> P m -> P (l'.foldl lstep m):=by
    intro l'
    induction l' with
    | nil => intro m _ h; exact h
    | cons x r ih => intro m hl h; exact ih _ (fun y hy => hl y (List.mem_cons_of_mem _ hy)) (hs m x (hl x List.mem_cons_self) h)
  exact this l [] (fun x h => h) h0
theorem lst_nd (l:List (κ×Rat)):((lst l).map (·.1)).Nodup:=lst_rev (fun m => (m.map (·.1)).Nodup) l (by simp) fun m x _ h => lstep_nd h
theorem lst_mem {l:List (κ×Rat)} {x:κ×Rat} (h:x ∈ lst l):x ∈ l:=by
  refine lst_rev (fun m => ∀ y ∈ m,y ∈ l) l (by simp) (fun m x hx ih y hy => ?_) x h
  obtain ⟨k,q⟩:=y
  rcases lstep_mem hy with h | h
  . exact ih _ h
  . rw [h]; exact hx
theorem lstep_len {m:AL κ Rat} {x:κ×Rat}:(lstep m x).length <= m.length + 1:=by
  have:∀ v,(aput m x.1 v).length <= m.length + 1:=fun v => by unfold aput; split <;> simp
  unfold lstep
  split
  . exact this _
  . split
    . exact this _
    . omega
end
end L2
namespace L2
theorem lst_len {κ:Type} [DecidableEq κ] (l:List (κ×Rat)):(lst l).length <= l.length:=by
  have:∀ (l':List (κ×Rat)) (m:AL κ Rat),(l'.foldl lstep m).length <= m.length + l'.length:=by
    intro l'
    induction l' with
    | nil => intro m; simp
    | cons x r ih =>
      intro m
      have h1:=ih (lstep m x)
      have h2:=lstep_len (m:=m) (x:=x)
      rw [List.foldl_cons,List.length_cons]
      omega
  have:=this l []
  unfold lst
  simpa using this
end L2
namespace L2
open PySem PySem.Spec PyProof.Rows
section
variable {X:Cx} {a b:Expr} {ta tb td ty tv:TE} {pos:Pos} {rest:List Expr} {σ:St} {H H':Hp} {Q:VK} {D:Ends} {K:PySem.W.Frag} {w:World} {v x:V}
noncomputable def tOrT (K:PySem.W.Frag) (ta tb:TE):TE:=fun σ H Q => ta σ H fun x H1 => ∃ k,TruV K x H1 k /\ if k = true then Q x H1 else tb σ H1 Q
theorem pe_orT (ha:PE X a ta) (hb:PE X (.BoolOp .Or (b :: rest) pos) tb):PE X (.BoolOp .Or (a :: b :: rest) pos) (tOrT X.K ta tb):=by
  intro pins s σ H Q I h
  refine BoolOp_or (thn (ha pins s σ H _ I h) fun v s1 ⟨x,H1,I1,r1,k,tr,q1⟩ => ?_)
  refine thn (tru_ok pins s1 σ H1 x v (fun k' H2 => H2 = H1 /\ k' = k) I1 r1 ⟨k,tr,rfl,rfl⟩) fun k' s2 ⟨H2,I2,e1,e2⟩ => ?_
  subst e1 e2
  cases k' with
  | true => exact ⟨x,H2,I2,r1,by rw [if_pos rfl] at q1; exact q1⟩
  | false => exact hb pins s2 σ H2 Q I2 (by rw [if_neg Bool.false_ne_true] at q1; exact q1)
theorem r_orT (k:ta σ H fun x H1 => ∃ k,TruV K x H1 k /\ if k = true then Q x H1 else tb σ H1 Q):tOrT K ta tb σ H Q:=k
noncomputable def tTru (K:PySem.W.Frag) (ta:TE):TT:=fun σ H R => ta σ H fun x H' => ∃ k,TruV K x H' k /\ R k H'
theorem pt_tru (ha:PE X a ta) (he:∀ whole,isTrue a X.env whole = (do let v ← whole; standAt a.pos; holding [v] (truthy v)):=by intro _; rfl):PT X a (tTru X.K ta):=pt_truth ha he
theorem r_tru {R:Bool -> Hp -> Prop} (k:ta σ H fun x H' => ∃ k,TruV K x H' k /\ R k H'):tTru K ta σ H R:=k
theorem t_dict {p:Addr} {kvs:List (Key×V)} {R:Bool -> Hp -> Prop} (h:H p = some (.dK kvs)) (k:R (!kvs.isEmpty) H):∃ k,TruV K (.ref p) H k /\ R k H:=⟨_,.inr (.inr ⟨kvs,h,rfl⟩),k⟩
theorem t_list {p:Addr} {xs:List V} {R:Bool -> Hp -> Prop} (h:H p = some (.lst xs)) (k:R (!xs.isEmpty) H):∃ k,TruV K (.ref p) H k /\ R k H:=⟨_,.inl ⟨xs,SqL.of h,rfl⟩,k⟩
theorem t_none {R:Bool -> Hp -> Prop} (k:R false H):∃ k,TruV K .non H k /\ R k H:=⟨false,rfl,k⟩
theorem r_dnew (k:∀ p,H p = none -> Q (.ref p) (upd H p (.dK []))):tDNewK σ H Q:=k
noncomputable def dG (x y:V) (H:Hp) (Q:VK):Prop:=∃ a v,x = .ref a /\ DGet H a y (some v) /\ Q v H
theorem r_dget (k:td σ H fun x H1 => ty σ H1 fun y H2 => dG x y H2 Q):tDGet td ty σ H Q:=k
theorem r_dGs {p:Addr} {kvs:List (Key×V)} {s:Str} (h:Rd H p (.dK kvs)) (e:valV kvs (Sum.inr s) = some v) (k:Q v H):dG (.ref p) (.str s) H Q:=⟨p,v,rfl,.inl ⟨kvs,Sum.inr s,h,rfl,e.symm⟩,k⟩
theorem r_dGi {p:Addr} {kvs:List (Key×V)} {i:Int} (h:Rd H p (.dK kvs)) (e:valV kvs (Sum.inl i) = some v) (k:Q v H):dG (.ref p) (.int i) H Q:=⟨p,v,rfl,.inl ⟨kvs,Sum.inl i,h,rfl,e.symm⟩,k⟩
noncomputable def dI (y x:V) (H:Hp) (Q:VK):Prop:=∃ a o,x = .ref a /\ DGet H a y o /\ Q (.bl o.isSome) H
noncomputable def dN (y x:V) (H:Hp) (Q:VK):Prop:=∃ a o,x = .ref a /\ DGet H a y o /\ Q (.bl (!o.isSome)) H
theorem r_din (k:ty σ H fun y H1 => td σ H1 fun x H2 => dI y x H2 Q):tDIn ty td σ H Q:=k
theorem r_dnin (k:ty σ H fun y H1 => td σ H1 fun x H2 => dN y x H2 Q):tDNotIn ty td σ H Q:=k
theorem r_dIs {p:Addr} {kvs:List (Key×V)} {s:Str} (h:Rd H p (.dK kvs)) (k:Q (.bl (valV kvs (Sum.inr s)).isSome) H):dI (.str s) (.ref p) H Q:=⟨p,_,rfl,.inl ⟨kvs,Sum.inr s,h,rfl,rfl⟩,k⟩
theorem r_dIi {p:Addr} {kvs:List (Key×V)} {i:Int} (h:Rd H p (.dK kvs)) (k:Q (.bl (valV kvs (Sum.inl i)).isSome) H):dI (.int i) (.ref p) H Q:=⟨p,_,rfl,.inl ⟨kvs,Sum.inl i,h,rfl,rfl⟩,k⟩
theorem r_dGk {p:Addr} {kvs:List (Key×V)} {c:Key} (h:Rd H p (.dK kvs)) (e:valV kvs c = some v) (k:Q v H):dG (.ref p) (kV c) H Q:=⟨p,v,rfl,.inl ⟨kvs,c,h,rfl,e.symm⟩,k⟩
theorem r_dIk {p:Addr} {kvs:List (Key×V)} {c:Key} (h:Rd H p (.dK kvs)) (k:Q (.bl (valV kvs c).isSome) H):dI (kV c) (.ref p) H Q:=⟨p,_,rfl,.inl ⟨kvs,c,h,rfl,rfl⟩,k⟩
theorem r_dNk {p:Addr} {kvs:List (Key×V)} {c:Key} (h:Rd H p (.dK kvs)) (k:Q (.bl (!(valV kvs c).isSome)) H):dN (kV c) (.ref p) H Q:=⟨p,_,rfl,.inl ⟨kvs,c,h,rfl,rfl⟩,k⟩
noncomputable def dP (D:Ends) (σ:St) (v x y:V) (H:Hp):Prop:=∃ a H4,x = .ref a /\ DPut H a y v H4 /\ D.nx σ H4
theorem r_dput (k:tv σ H fun v H1 => td σ H1 fun x H2 => ty σ H2 fun y H3 => dP D σ v x y H3):sDPut td ty tv D σ H:=k
theorem r_dPk {p:Addr} {kvs:List (Key×V)} {c:Key} (h:H p = some (.dK kvs)) (hl:kvs.length <= 1000) (k:D.nx σ (upd H p (.dK (putK kvs c v)))):dP D σ v (.ref p) (kV c) H:=⟨p,_,rfl,DPut.k h (small1000 hl),k⟩
noncomputable def dG1 (ty:TE) (σ:St) (Q:VK) (x:V) (H1:Hp):Prop:=∃ a,x = .ref a /\ IsD H1 a /\ ty σ H1 fun y H2 => ∃ o,DGet H2 a y o /\ Q (o.getD .non) H2
theorem r_dget1 (k:td σ H (dG1 ty σ Q)):tDGet1 td ty σ H Q:=k
noncomputable def dG2 (ty tx:TE) (σ:St) (Q:VK) (x:V) (H1:Hp):Prop:=∃ a,x = .ref a /\ IsD H1 a /\ ty σ H1 fun y H2 => tx σ H2 fun z H3 => ∃ o,DGet H3 a y o /\ Q (o.getD z) H3
theorem r_dget2 {tx:TE} (k:td σ H (dG2 ty tx σ Q)):tDGet2 td ty tx σ H Q:=k
noncomputable def dpK (ty:TE) (σ:St) (Q:VK) (x:V) (H1:Hp):Prop:=∃ a,x = .ref a /\ IsD H1 a /\ ty σ H1 fun y H2 => ∃ kvs k v,H2 a = some (.dK kvs) /\ y = kV k /\ valV kvs k = some v /\ Q v (upd H2 a (.dK (dropK kvs k)))
theorem r_dpop1 (k:td σ H (dpK ty σ Q)):tDPop1 td ty σ H Q:=k
theorem r_forD {g:TG} {tl:TE} {tb:TS} (a:Addr) (nf:NoFrz H a) (k:tl σ H fun x H1 => x = .ref a /\ ∃ kvs,H1 a = some (.dK kvs) /\ ∀ o,forK g tb (Dm a D) σ (Itd a o kvs) (upd H1 a (.frz o (.dK kvs)))):tForD tl g tb D σ H:=⟨a,nf,k⟩
theorem r_forDk {a:Addr} {o:Obj} {kvs:List (Key×V)} {g:TG} {tb:TS} {D:Ends} (Pv:Nat -> St -> Hp -> Prop) (h0:Pv 0 σ H) (hl:∀ i σ H,i <= kvs.length -> Pv i σ H -> H a = some (.frz o (.dK kvs)))
    (hs:∀ i k v σ H,kvs[i]? = some (k,v) -> Pv i σ H -> g (kV k) σ H fun σ2 H2 => tb ⟨Pv (i + 1),D.rt,D.nx,Pv (i + 1)⟩ σ2 H2) (hd:∀ σ H,Pv kvs.length σ H -> D.nx σ H):forK g tb D σ (Itd a o kvs) H:=by
  refine ⟨fun i m σ H => m = kvs.length - i /\ i <= kvs.length /\ Pv i σ H,⟨_,rfl,Nat.zero_le _,h0⟩,?_⟩
  rintro i m σ H ⟨rfl,hi,p⟩
  by_cases hlt:i < kvs.length
  . refine .inr ⟨⟨hl i σ H hi p,hlt⟩,Pv (i + 1),fun σ' H' q => ⟨kvs.length - (i + 1),by omega,rfl,hlt,q⟩,fun x H' y => ?_⟩
    obtain ⟨rfl,k,v,e,rfl⟩:=y
    exact hs i k v σ _ e p
  . have:i = kvs.length:=by omega
    subst this
    exact .inl ⟨⟨hl _ σ H (Nat.le_refl _) p,Nat.le_refl _⟩,hd σ H p⟩
theorem r_forE {a:Addr} {xs:List V} {g:TG} {tb:TS} (Pv:Nat -> St -> Hp -> Prop) (h0:Pv 0 σ H) (hl:∀ i σ H,i <= xs.length -> Pv i σ H -> SqL K H a xs)
    (hs:∀ i x T σ H,xs[i]? = some x -> H T = none -> Pv i σ H -> g (.ref T) σ (upd H T (.tup [.int i,x])) fun σ2 H2 => tb ⟨Pv (i + 1),D.rt,D.nx,Pv (i + 1)⟩ σ2 H2) (hd:∀ σ H,Pv xs.length σ H -> D.nx σ H):forK g tb D σ (Ite K a) H:=by
  refine ⟨fun i m σ H => m = xs.length - i /\ i <= xs.length /\ Pv i σ H,⟨_,rfl,Nat.zero_le _,h0⟩,?_⟩
  rintro i m σ H ⟨rfl,hi,p⟩
  have q:=hl i σ H hi p
  by_cases hlt:i < xs.length
  . refine .inr ⟨⟨xs,xs[i],q,by simp [hlt]⟩,Pv (i + 1),fun σ' H' q => ⟨xs.length - (i + 1),by omega,rfl,hlt,q⟩,fun x H' y => ?_⟩
    obtain ⟨T,x',rfl,hT,rfl,e⟩:=y
    exact hs i x' T σ H (e xs q) hT p
  . have:i = xs.length:=by omega
    subst this
    exact .inl ⟨⟨xs,q,Nat.le_refl _⟩,hd σ H p⟩
theorem r_iEnum {tl:TA} {R:It -> Hp -> Prop} (k:tl σ H fun vs H1 => ∃ a,vs = [.ref a] /\ (∃ xs,SqL K H1 a xs) /\ R (Ite K a) H1):iEnum K tl σ H R:=k
theorem e_K {a:Addr} {xs:List V} {R:It -> Hp -> Prop} (h:H a = some (.lst xs)) (k:R (Ite K a) H):∃ a',[V.ref a] = [.ref a'] /\ (∃ xs,SqL K H a' xs) /\ R (Ite K a') H:=⟨a,rfl,⟨xs,SqL.of h⟩,k⟩
theorem r_gtup2 {p:Addr} {x y:V} {t:TGs} {R:St -> Hp -> Prop} (h:H p = some (.tup [x,y])) (k:t [x,y] σ H R):gTup K 2 t (.ref p) σ H R:=⟨p,_,rfl,SqT.of h,rfl,k⟩
theorem r_gtup3 {p:Addr} {x y z:V} {t:TGs} {R:St -> Hp -> Prop} (h:H p = some (.tup [x,y,z])) (k:t [x,y,z] σ H R):gTup K 3 t (.ref p) σ H R:=⟨p,_,rfl,SqT.of h,rfl,k⟩
theorem r_gnil {R:St -> Hp -> Prop} (k:R σ H):gNil [] σ H R:=⟨rfl,k⟩
theorem r_gcons {t:TG} {u:TGs} {r:List V} {R:St -> Hp -> Prop} (k:t v σ H fun σ' H' => u r σ' H' R):gCons t u (v :: r) σ H R:=⟨v,r,rfl,k⟩
end
noncomputable def TK (H H':Hp):Prop:=∀ p xs,H p = some (.tup xs) -> H' p = some (.tup xs)
theorem TK.trans {H H1 H2:Hp} (a:TK H H1) (b:TK H1 H2):TK H H2:=fun p xs h => b p xs (a p xs h)
theorem Same.tk {H H':Hp} (s:Same H H'):TK H H':=fun p xs h => s _ _ h
theorem TK.new {H:Hp} {q:Addr} {o:HO} (h:H q = none):TK H (upd H q o):=(Same.new h).tk
theorem TK.lst {H:Hp} {q:Addr} {o:HO} {ys:List V} (h:H q = some (.lst ys)):TK H (upd H q o):=fun p xs e => by rw [upd_ne (ne_of e h (by intro z; cases z))]; exact e
theorem TK.dic {H:Hp} {q:Addr} {o:HO} {ys:List (Key×V)} (h:H q = some (.dK ys)):TK H (upd H q o):=fun p xs e => by rw [upd_ne (ne_of e h (by intro z; cases z))]; exact e
theorem TK.melt {H:Hp} {a:Addr}:TK H (melt a H):=fun p xs e => melt_old (fun _ _ z => nomatch z) e
noncomputable def FrQ (H:Hp) (v:V) (q:Rat):Prop:=∃ p,v = .ref p /\ H p = some (.tup [.int q.num,.int q.den])
theorem FrQ.tk {H H':Hp} {v:V} {q:Rat} (h:FrQ H v q) (t:TK H H'):FrQ H' v q:=let ⟨p,e,h⟩:=h; ⟨p,e,t _ _ h⟩
noncomputable def KvQ (H:Hp) (v:V) (x:Key×Rat):Prop:=∃ p u,v = .ref p /\ H p = some (.tup [kV x.1,u]) /\ FrQ H u x.2
theorem KvQ.tk {H H':Hp} {v:V} {x:Key×Rat} (h:KvQ H v x) (t:TK H H'):KvQ H' v x:=let ⟨p,u,e,h,f⟩:=h; ⟨p,u,e,t _ _ h,f.tk t⟩
noncomputable def RunQ (H:Hp) (v:V) (r:Key×Key×Rat):Prop:=∃ p u,v = .ref p /\ H p = some (.tup [kV r.1,kV r.2.1,u]) /\ FrQ H u r.2.2
theorem RunQ.tk {H H':Hp} {v:V} {r:Key×Key×Rat} (h:RunQ H v r) (t:TK H H'):RunQ H' v r:=let ⟨p,u,e,h,f⟩:=h; ⟨p,u,e,t _ _ h,f.tk t⟩
noncomputable def EntQ (H:Hp) (v:V) (e:Rat×Option (Nat×Key)):Prop:=∃ p u,v = .ref p /\ H p = some (.tup [u,(match e.2 with | none => .non | some kq => .int kq.1),(match e.2 with | none => .non | some kq => kV kq.2)]) /\ FrQ H u e.1
theorem EntQ.tk {H H':Hp} {v:V} {e:Rat×Option (Nat×Key)} (h:EntQ H v e) (t:TK H H'):EntQ H' v e:=let ⟨p,u,a,h,f⟩:=h; ⟨p,u,a,t _ _ h,f.tk t⟩
noncomputable def NpQ (H:Hp) (v:V) (x:Nat×Key):Prop:=∃ p,v = .ref p /\ H p = some (.tup [.int x.1,kV x.2])
theorem NpQ.tk {H H':Hp} {v:V} {x:Nat×Key} (h:NpQ H v x) (t:TK H H'):NpQ H' v x:=let ⟨p,e,h⟩:=h; ⟨p,e,t _ _ h⟩
section
variable {α β:Type} {F G:α -> β -> Prop}
theorem Pd.imp:∀ {l:List α} {m:List β},Paired F l m -> (∀ a b,F a b -> G a b) -> Paired G l m
  | _,_,.nil,_ => .nil
  | _,_,.cons r t,f => .cons (f _ _ r) (Pd.imp t f)
theorem Pd.snoc:∀ {l:List α} {m:List β} {a:α} {b:β},Paired F l m -> F a b -> Paired F (l ++ [a]) (m ++ [b])
  | _,_,_,_,.nil,r => .cons r .nil
  | _,_,_,_,.cons q t,r => .cons q (Pd.snoc t r)
theorem Pd.get:∀ {l:List α} {m:List β} {i:Nat} {b:β},Paired F l m -> m[i]? = some b -> ∃ a,l[i]? = some a /\ F a b
  | _,_,_,_,.nil,e => by simp at e
  | _,_,0,_,.cons r _,e => by simp at e; subst e; exact ⟨_,rfl,r⟩
  | _,_,i + 1,b,.cons _ t,e => by
    obtain ⟨y,h1,h2⟩:=Pd.get (i:=i) (b:=b) t (by simpa using e)
    exact ⟨y,by simpa using h1,h2⟩
end
noncomputable def LQ {β:Type} (R:Hp -> V -> β -> Prop) (H:Hp) (l:Addr) (ds:List β):Prop:=∃ vs,H l = some (.lst vs) /\ Paired (R H) vs ds
noncomputable def KQ {β:Type} (R:Hp -> V -> β -> Prop) (H:Hp) (kvs:List (Key×V)) (m:List (Key×β)):Prop:=Paired (fun kv ab => kv.1 = ab.1 /\ R H kv.2 ab.2) kvs m
noncomputable def DQ {β:Type} (R:Hp -> V -> β -> Prop) (H:Hp) (d:Addr) (m:List (Key×β)):Prop:=∃ kvs,H d = some (.dK kvs) /\ KQ R H kvs m
section
variable {β:Type} {R:Hp -> V -> β -> Prop} {H H':Hp} {l d:Addr} {ds:List β} {m:List (Key×β)} {kvs:List (Key×V)}
theorem LQ.same (h:LQ R H l ds) (hR:∀ v b,R H v b -> R H' v b) (s:Same H H'):LQ R H' l ds:=let ⟨vs,a,b⟩:=h; ⟨vs,s _ _ a,Pd.imp b hR⟩
theorem KQ.imp {R':Hp -> V -> β -> Prop} (h:KQ R H kvs m) (hR:∀ v b,R H v b -> R' H' v b):KQ R' H' kvs m:=Pd.imp h fun _ _ q => ⟨q.1,hR _ _ q.2⟩
theorem KQ.keys:∀ {kvs:List (Key×V)} {m:List (Key×β)},KQ R H kvs m -> kvs.map (·.1) = m.map (·.1)
  | _,_,.nil => rfl
  | _,_,.cons r t => by rw [List.map_cons,List.map_cons,r.1,KQ.keys t]
theorem KQ.len (h:KQ R H kvs m):kvs.length = m.length:=Paired.length h
theorem KQ.val:∀ {kvs:List (Key×V)} {m:List (Key×β)} {k:Key},KQ R H kvs m -> (valV kvs k = none /\ aget m k = none) ∨ ∃ v b,valV kvs k = some v /\ aget m k = some b /\ R H v b
  | _,_,_,.nil => .inl ⟨rfl,rfl⟩
  | _,_,k,.cons (a:=p) (b:=q) (l₁:=as) (l₂:=bs) r t => by
    by_cases e:p.1 = k
    . refine .inr ⟨p.2,q.2,valV_pos e,?_,r.2⟩
      have e':q.1 = k:=r.1 ▸ e
      simp [aget,List.find?_cons,e']
    . have e':¬ q.1 = k:=fun z => e (r.1.trans z)
      have h1:valV (p :: as) k = valV as k:=valV_neg e
      rw [h1]
      have h2:aget (q :: bs) k = aget bs k:=by simp [aget,List.find?_cons,e']
      rw [h2]
      exact KQ.val t
theorem KQ.repl {k:Key} {v:V} {b:β} (hv:R H v b):∀ {kvs:List (Key×V)} {m:List (Key×β)},KQ R H kvs m -> KQ R H (kvs.map fun kv => if kv.1 = k then (kv.1,v) else kv) (m.map fun kv => if kv.1 = k then (kv.1,b) else kv)
  | _,_,.nil => .nil
  | _,_,.cons (a:=p) (b:=q) r t => by
    refine .cons ?_ (KQ.repl hv t)
    dsimp only
    by_cases e:p.1 = k
    . rw [if_pos e,if_pos (r.1 ▸ e)]
      exact ⟨r.1,hv⟩
    . rw [if_neg e,if_neg (fun z => e (r.1.trans z))]
      exact r
theorem KQ.any {k:Key}:∀ {kvs:List (Key×V)} {m:List (Key×β)},KQ R H kvs m -> (kvs.any fun kv => decide (kv.1 = k)) = m.any fun kv => decide (kv.1 = k)
  | _,_,.nil => rfl
  | _,_,.cons r t => by rw [List.any_cons,List.any_cons,r.1,KQ.any t]
theorem KQ.put {k:Key} {v:V} {b:β} (h:KQ R H kvs m) (hv:R H v b):KQ R H (putK kvs k v) (aput m k b):=by
  unfold putK aput
  rw [KQ.any h]
  split
  . exact KQ.repl hv h
  . exact Pd.snoc h ⟨rfl,hv⟩
theorem KQ.drop {k:Key}:∀ {kvs:List (Key×V)} {m:List (Key×β)},KQ R H kvs m -> KQ R H (dropK kvs k) (adrop m k)
  | _,_,.nil => .nil
  | _,_,.cons (a:=p) (b:=q) (l₁:=as) (l₂:=bs) r t => by
    have ih:=KQ.drop (k:=k) t
    by_cases e:p.1 = k
    . have h1:dropK (p :: as) k = dropK as k:=dropK_pos e
      rw [h1]
      have h2:adrop (q :: bs) k = adrop bs k:=by unfold adrop; rw [List.filter_cons]; simp [show q.1 = k from r.1 ▸ e]
      rw [h2]
      exact ih
    . have h1:dropK (p :: as) k = p :: dropK as k:=dropK_neg e
      rw [h1]
      have h2:adrop (q :: bs) k = q :: adrop bs k:=by unfold adrop; rw [List.filter_cons]; simp [show ¬ q.1 = k from fun z => e (r.1.trans z)]
      rw [h2]
      exact .cons r ih
end
theorem i_sN {β:Type} {A B:Prop} (k:B):if (none:Option β).isSome = true then A else B:=k
theorem i_sS {β:Type} {b:β} {A B:Prop} (k:A):if (some b).isSome = true then A else B:=k
theorem upd_self {H:Hp} {a:Addr} {o:HO} (h:H a = some o):upd H a o = H:=by
  funext b
  by_cases e:b = a
  . subst e; rw [upd_same,h]
  . rw [upd_ne e]
theorem r_nxD {D:Ends} {σ:St} {H:Hp} (k:D.nx σ H):D.nx σ H:=k
theorem r_rtD {D:Ends} {v:V} {H:Hp} (k:D.rt v H):D.rt v H:=k
theorem r_ctD {D:Ends} {σ:St} {H:Hp} (k:D.ct σ H):D.ct σ H:=k
theorem r_dmN {a:Addr} {D:Ends} {σ:St} {H:Hp} (k:D.nx σ (melt a H)):(Dm a D).nx σ H:=k
theorem Room.u1 {k:Nat} {A:Around} (r:Room k A):A.units + 1 < cLine:=by have:=r.units; omega
section
variable {X:Cx} {σ:St} {H H':Hp} {Q:VK} {K:PySem.W.Frag} {v x y:V} {w:World}
theorem upd_not {q b:Addr} {o u:HO} (n:b ≠ q) (h:H b = some u):upd H q o b = some u:=by rw [upd_ne n]; exact h
noncomputable def rIsN:R2:=fun x y H Q => y = .non /\ Q (.bl (decide (x = .non))) H
noncomputable def rNotN:R2:=fun x y H Q => y = .non /\ Q (.bl (!decide (x = .non))) H
theorem op_isN2:OpR X (compareOp .Is) rIsN:=op_isN
theorem op_notN2:OpR X (compareOp .IsNot) rNotN:=op_notN
theorem r_isNr {p:Addr} (k:Q (.bl false) H):rIsN (.ref p) .non H Q:=⟨rfl,k⟩
theorem r_isNn (k:Q (.bl true) H):rIsN .non .non H Q:=⟨rfl,k⟩
theorem r_isNk {c:Key} (k:Q (.bl false) H):rIsN (kV c) .non H Q:=⟨rfl,by cases c <;> exact k⟩
theorem r_noNr {p:Addr} (k:Q (.bl true) H):rNotN (.ref p) .non H Q:=⟨rfl,k⟩
theorem r_noNn (k:Q (.bl false) H):rNotN .non .non H Q:=⟨rfl,k⟩
noncomputable def bmK (K:PySem.W.Frag) (T:String) (r:V -> List V -> Hp -> VK -> Prop) (t:TA) (σ:St) (Q:VK):VK:=fun x H1 => tyV K T x H1 /\ t σ H1 fun xs H2 => r x xs H2 Q
theorem r_bm {T:String} {r:V -> List V -> Hp -> VK -> Prop} {to:TE} {t:TA} (k:to σ H (bmK K T r t σ Q)):tBM K T r to t σ H Q:=k
theorem r_bmL {r:V -> List V -> Hp -> VK -> Prop} {t:TA} {l:Addr} {xs:List V} (h:H l = some (.lst xs)) (k:t σ H fun vs H2 => r (.ref l) vs H2 Q):bmK K "list" r t σ Q (.ref l) H:=⟨.inl ⟨rfl,xs,SqL.of h⟩,k⟩
theorem r_bmD {r:V -> List V -> Hp -> VK -> Prop} {t:TA} {l:Addr} {xs:List (Key×V)} (h:H l = some (.dK xs)) (k:t σ H fun vs H2 => r (.ref l) vs H2 Q):bmK K "dict" r t σ Q (.ref l) H:=⟨.inr (.inr (.inl ⟨rfl,.inl ⟨xs,h⟩⟩)),k⟩
theorem r_app {l:Addr} {xs:List V} (h:H l = some (.lst xs)) (hl:xs.length <= 1000) (k:Q .non (upd H l (.lst (xs ++ [y])))):rAppend (.ref l) [y] H Q:=⟨l,xs,y,rfl,rfl,h,small1000 hl,k⟩
theorem r_setdef {a:Addr} {kvs:List (Key×V)} {c:Key} (h:H a = some (.dK kvs)) (hl:kvs.length <= 1000) (k1:∀ u,valV kvs c = some u -> Q u H) (k2:valV kvs c = none -> Q v (upd H a (.dK (kvs ++ [(c,v)])))):rSetDef (.ref a) [kV c,v] H Q:=⟨a,kvs,c,v,rfl,rfl,h,hl,k1,k2⟩
theorem r_compD {tl te:TE} {o:Option TT} {g:TG} {k:Nat} {is:List Nat} (a:Addr) (nf:NoFrz H a) (h:tl σ H fun x H1 => x = .ref a /\ ∃ kvs,H1 a = some (.dK kvs) /\ ∀ o',compK te o g (List.replicate k none) (capV σ is) (fun v H' => Q v (melt a H')) (Itd a o' kvs) (upd H1 a (.frz o' (.dK kvs)))):tCompD tl te o g k is σ H Q:=⟨a,nf,h⟩
theorem NoFrz.dK {a:Addr} {kvs:List (Key×V)} (h:H a = some (.dK kvs)):NoFrz H a:=fun o u e => by rw [h] at e; cases e
end
end L2
namespace L2
open PySem PySem.Spec PyProof.Rows
theorem valV_snoc2 {kvs:List (Key×V)} {p q:Key} {v:V} (h:valV kvs p = none):valV (kvs ++ [(p,v)]) q = if q = p then some v else valV kvs q:=by
  by_cases e:q = p
  . subst e
    rw [if_pos rfl]
    induction kvs with
    | nil => exact valV_pos rfl
    | cons kv r ih =>
      by_cases z:kv.1 = q
      . rw [valV_pos z] at h; cases h
      . rw [valV_neg z] at h
        rw [List.cons_append,valV_neg z]
        exact ih h
  . rw [if_neg e]
    clear h
    induction kvs with
    | nil => exact valV_neg (fun z => e z.symm)
    | cons kv r ih =>
      by_cases z:kv.1 = q
      . rw [List.cons_append,valV_pos z,valV_pos z]
      . rw [List.cons_append,valV_neg z,valV_neg z]
        exact ih
structure BI (H H1:Hp) (d:Addr) (f:Key -> List (Nat×Key)) (n:Nat):Prop where
  same:Same H H1
  dn:H d = none
  ex:∃ kvs,H1 d = some (.dK kvs) /\ kvs.length <= n /\ (∀ p,valV kvs p = none -> f p = []) /\ (∀ p v,valV kvs p = some v -> ∃ l,v = .ref l /\ H l = none /\ LQ NpQ H1 l (f p)) /\ ∀ p q l,valV kvs p = some (.ref l) -> valV kvs q = some (.ref l) -> p = q
noncomputable def bs1 (f:Key -> List (Nat×Key)) (p:Key) (x:Nat×Key):Key -> List (Nat×Key):=fun q => if q = p then f q ++ [x] else f q
theorem BI.start {H:Hp} {d:Addr} (h:H d = none):BI H (upd H d (.dK [])) d (fun _ => []) 0 :=
  ⟨Same.new h,h,[],upd_same,Nat.le_refl _,fun _ _ => rfl,fun p v e => (by cases e),fun p q l e => (by cases e)⟩
theorem NpQ.imp {H H':Hp} (t:TK H H'):∀ v b,NpQ H v b -> NpQ H' v b:=fun v b h => h.tk t
theorem BI.alloc {H H1:Hp} {d q:Addr} {o:HO} {f:Key -> List (Nat×Key)} {n:Nat} (B:BI H H1 d f n) (h:H1 q = none):BI H (upd H1 q o) d f n:=by
  obtain ⟨kvs,a,b,c,e,g⟩:=B.ex
  refine ⟨B.same.trans (Same.new h),B.dn,kvs,upd_old h a,b,c,fun p v z => ?_,g⟩
  obtain ⟨l,rfl,hl,q⟩:=e p v z
  exact ⟨l,rfl,hl,q.same (NpQ.imp (TK.new h)) (Same.new h)⟩
theorem BI.old {H H1:Hp} {d l t:Addr} {p:Key} {x:Nat×Key} {f:Key -> List (Nat×Key)} {n:Nat} {kvs:List (Key×V)} {xs:List V} (B:BI H H1 d f n) (hd:H1 d = some (.dK kvs)) (hv:valV kvs p = some (.ref l)) (hl:H1 l = some (.lst xs)) (ht:H1 t = some (.tup [.int x.1,kV x.2])) :
    BI H (upd H1 l (.lst (xs ++ [.ref t]))) d (bs1 f p x) n:=by
  obtain ⟨kvs',a,b,c,e,g⟩:=B.ex
  rw [hd] at a
  cases a
  have tk:TK H1 (upd H1 l (.lst (xs ++ [.ref t]))):=TK.lst hl
  obtain ⟨l',e1,hln,ys,hy,py⟩:=e p _ hv
  cases e1
  rw [hl] at hy
  cases hy
  refine ⟨fun b o h => ?_,B.dn,kvs,?_,b,fun q z => ?_,fun q v z => ?_,g⟩
  . rw [upd_ne (ne_of_none h hln)]
    exact B.same _ _ h
  . rw [upd_ne (ne_of hd hl (by intro z; cases z))]
    exact hd
  . have hq:q ≠ p:=fun w => by subst w; rw [hv] at z; cases z
    show (if q = p then _ else _) = _
    rw [if_neg hq]
    exact c q z
  . obtain ⟨m,rfl,hm,zs,hz,pz⟩:=e q v z
    by_cases hq:q = p
    . subst hq
      rw [hv] at z
      cases z
      refine ⟨l,rfl,hln,xs ++ [.ref t],upd_same,?_⟩
      show Paired _ _ (if q = q then _ else _)
      rw [if_pos rfl]
      exact Pd.snoc (Pd.imp py (NpQ.imp tk)) ⟨t,rfl,tk _ _ ht⟩
    . refine ⟨m,rfl,hm,zs,?_,?_⟩
      . have:m ≠ l:=fun w => by subst w; exact hq (g _ _ _ z hv)
        rw [upd_ne this]
        exact hz
      . show Paired _ _ (if q = p then _ else _)
        rw [if_neg hq]
        exact Pd.imp pz (NpQ.imp tk)
theorem BI.key {H H1:Hp} {d l:Addr} {p:Key} {f:Key -> List (Nat×Key)} {n:Nat} {kvs:List (Key×V)} (B:BI H H1 d f n) (hd:H1 d = some (.dK kvs)) (hv:valV kvs p = none) (hl:H1 l = some (.lst [])) (hn:H l = none) (hf:∀ q,valV kvs q ≠ some (.ref l)) :
    BI H (upd H1 d (.dK (kvs ++ [(p,.ref l)]))) d f (n + 1):=by
  obtain ⟨kvs',a,b,c,e,g⟩:=B.ex
  rw [hd] at a
  cases a
  have tk:TK H1 (upd H1 d (.dK (kvs ++ [(p,.ref l)]))):=TK.dic hd
  refine ⟨fun b o h => ?_,B.dn,kvs ++ [(p,.ref l)],upd_same,by simp; exact b,fun q z => ?_,fun q v z => ?_,fun q r m z1 z2 => ?_⟩
  . rw [upd_ne (ne_of_none h B.dn)]
    exact B.same _ _ h
  . rw [valV_snoc2 hv] at z
    by_cases hq:q = p
    . rw [if_pos hq] at z; cases z
    . rw [if_neg hq] at z; exact c q z
  . rw [valV_snoc2 hv] at z
    by_cases hq:q = p
    . rw [if_pos hq] at z
      cases z
      subst hq
      refine ⟨l,rfl,hn,[],?_,?_⟩
      . rw [upd_ne (ne_of hl hd (by intro z; cases z))]; exact hl
      . rw [c q hv]; exact .nil
    . rw [if_neg hq] at z
      obtain ⟨m,rfl,hm,zs,hz,pz⟩:=e q v z
      refine ⟨m,rfl,hm,zs,?_,Pd.imp pz (NpQ.imp tk)⟩
      rw [upd_ne (ne_of hz hd (by intro z; cases z))]; exact hz
  . rw [valV_snoc2 hv] at z1 z2
    by_cases h1:q = p <;> by_cases h2:r = p
    . rw [h1,h2]
    . rw [if_pos h1] at z1; rw [if_neg h2] at z2
      cases z1
      exact absurd z2 (hf r)
    . rw [if_neg h1] at z1; rw [if_pos h2] at z2
      cases z2
      exact absurd z1 (hf q)
    . rw [if_neg h1] at z1; rw [if_neg h2] at z2
      exact g q r m z1 z2
theorem BI.mono {H H1:Hp} {d:Addr} {f:Key -> List (Nat×Key)} {m n:Nat} (B:BI H H1 d f m) (h:m <= n):BI H H1 d f n:=by
  obtain ⟨kvs,a,b,c⟩:=B.ex
  exact ⟨B.same,B.dn,kvs,a,Nat.le_trans b h,c⟩
theorem BI.non {H H1:Hp} {d l:Addr} {f:Key -> List (Nat×Key)} {n:Nat} (B:BI H H1 d f n) (h:H1 l = none):H l = none:=by
  cases e:H l with
  | none => rfl
  | some o => rw [B.same _ _ e] at h; cases h
theorem BI.more {H H1:Hp} {d l q t:Addr} {p:Key} {x:Nat×Key} {f:Key -> List (Nat×Key)} {n:Nat} {kvs:List (Key×V)} {xs:List V} (B:BI H H1 d f n) (hd:H1 d = some (.dK kvs)) (hv:valV kvs p = some (.ref l)) (hl:H1 l = some (.lst xs)) (hq:H1 q = none) (ht:upd H1 q (.lst []) t = none) :
    BI H (upd (upd (upd H1 q (.lst [])) t (.tup [.int x.1,kV x.2])) l (.lst (xs ++ [.ref t]))) d (bs1 f p x) (n + 1) :=
  (((B.alloc hq).alloc ht).old (upd_old ht (upd_old hq hd)) hv (upd_old ht (upd_old hq hl)) upd_same).mono (Nat.le_succ _)
theorem BI.new {H H1:Hp} {d l t:Addr} {p:Key} {x:Nat×Key} {f:Key -> List (Nat×Key)} {n:Nat} {kvs:List (Key×V)} (B:BI H H1 d f n) (hd:H1 d = some (.dK kvs)) (hv:valV kvs p = none) (hl:H1 l = none) (ht:upd (upd H1 l (.lst [])) d (.dK (kvs ++ [(p,.ref l)])) t = none) :
    BI H (upd (upd (upd (upd H1 l (.lst [])) d (.dK (kvs ++ [(p,.ref l)]))) t (.tup [.int x.1,kV x.2])) l (.lst ([] ++ [.ref t]))) d (bs1 f p x) (n + 1):=by
  have hdl:l ≠ d:=fun z => by subst z; rw [hl] at hd; cases hd
  have B1:=(B.alloc (o:=.lst []) hl).key (l:=l) (upd_old hl hd) hv upd_same (B.non hl) (fun q z => by
    obtain ⟨kvs',a,_,_,e,_⟩:=B.ex
    rw [hd] at a
    cases a
    obtain ⟨m,e1,_,zs,hz,_⟩:=e q _ z
    cases e1
    rw [hl] at hz
    cases hz)
  exact (B1.alloc ht).old (upd_old ht upd_same) (by rw [valV_snoc2 hv,if_pos rfl]) (upd_old ht (by rw [upd_ne hdl]; exact upd_same)) upd_same
noncomputable def BsOf (net:List (RunD Key)) (i:Nat) (f:Key -> List (Nat×Key)):Prop:=∀ q k x,(k,x) ∈ f q ↔ k < i /\ ∃ r,net[k]? = some r /\ Jn r q x
theorem BsOf.zero {net:List (RunD Key)}:BsOf net 0 (fun _ => []):=fun q k x => ⟨fun h => by simp at h,fun h => absurd h.1 (Nat.not_lt_zero _)⟩
theorem BsOf.next {net:List (RunD Key)} {i:Nat} {f:Key -> List (Nat×Key)} {r:RunD Key} (h:BsOf net i f) (hr:net[i]? = some r):BsOf net (i + 1) (bs1 (bs1 f r.1 (i,r.2.1)) r.2.1 (i,r.1)):=by
  intro q k x
  have key:(k,x) ∈ bs1 (bs1 f r.1 (i,r.2.1)) r.2.1 (i,r.1) q ↔ (k,x) ∈ f q ∨ (q = r.1 /\ k = i /\ x = r.2.1) ∨ (q = r.2.1 /\ k = i /\ x = r.1):=by
    unfold bs1
    split <;> split <;> simp_all
  rw [key,h q k x]
  constructor
  . rintro (⟨h1,h2⟩ | ⟨rfl,rfl,rfl⟩ | ⟨rfl,rfl,rfl⟩)
    . exact ⟨by omega,h2⟩
    . exact ⟨by omega,r,hr,.inl ⟨rfl,rfl⟩⟩
    . exact ⟨by omega,r,hr,.inr ⟨rfl,rfl⟩⟩
  . rintro ⟨h1,r',h2,h3⟩
    by_cases hk:k = i
    . subst hk
      rw [hr] at h2
      cases h2
      rcases h3 with ⟨rfl,rfl⟩ | ⟨rfl,rfl⟩
      . exact .inr (.inl ⟨rfl,rfl,rfl⟩)
      . exact .inr (.inr ⟨rfl,rfl,rfl⟩)
    . exact .inl ⟨by omega,r',h2,h3⟩
theorem bs1_len {f:Key -> List (Nat×Key)} {p:Key} {x:Nat×Key} {n:Nat} (h:∀ q,(f q).length <= n) (q:Key):(bs1 f p x q).length <= n + 1:=by
  unfold bs1
  have:=h q
  split
  . rw [List.length_append]; simp; exact this
  . omega
noncomputable def Bes (H:Hp) (d:Addr) (net:List (RunD Key)):Prop:=∃ kvs f,H d = some (.dK kvs) /\ BsOf net net.length f /\ (∀ q,(f q).length <= 2 * net.length) /\ (∀ p,valV kvs p = none -> f p = []) /\ ∀ p v,valV kvs p = some v -> ∃ l,v = .ref l /\ LQ NpQ H l (f p)
theorem BI.bes {H H1:Hp} {d:Addr} {net:List (RunD Key)} {f:Key -> List (Nat×Key)} {n:Nat} (B:BI H H1 d f n) (h:BsOf net net.length f) (hl:∀ q,(f q).length <= 2 * net.length):Bes H1 d net:=by
  obtain ⟨kvs,a,b,c,e,g⟩:=B.ex
  exact ⟨kvs,f,a,h,hl,c,fun p v z => let ⟨l,a,b,c⟩:=e p v z; ⟨l,a,c⟩⟩
theorem nd_len {α:Type} [DecidableEq α]:∀ {l m:List α},l.Nodup -> (∀ x ∈ l,x ∈ m) -> l.length <= m.length
  | [],_,_,_ => Nat.zero_le _
  | a :: l,m,nd,h => by
    rw [List.nodup_cons] at nd
    have ha:=h a (by simp)
    have:=nd_len (l:=l) (m:=m.erase a) nd.2 fun x hx => by
      have hne:x ≠ a:=fun z => nd.1 (by rw [← z]; exact hx)
      exact (List.mem_erase_of_ne hne).mpr (h x (by simp [hx]))
    have h2:=List.length_erase_of_mem ha
    have h3:0 < m.length:=List.length_pos_of_mem ha
    rw [List.length_cons]
    omega
theorem putK_none {kvs:List (Key×V)} {k:Key} {v:V} (h:k ∉ kvs.map (·.1)):putK kvs k v = kvs ++ [(k,v)]:=by
  unfold putK
  rw [if_neg]
  intro z
  obtain ⟨x,hx,e⟩:=List.any_eq_true.mp z
  exact h (List.mem_map.mpr ⟨x,hx,of_decide_eq_true e⟩)
theorem aput_none {β:Type} {m:AL Key β} {k:Key} {v:β} (h:k ∉ m.map (·.1)):aput m k v = m ++ [(k,v)]:=by
  unfold aput
  rw [if_neg]
  intro z
  obtain ⟨x,hx,e⟩:=List.any_eq_true.mp z
  exact h (List.mem_map.mpr ⟨x,hx,of_decide_eq_true e⟩)
theorem mergeK_nd:∀ {more kvs:List (Key×V)},((kvs ++ more).map (·.1)).Nodup -> mergeK kvs more = kvs ++ more
  | [],kvs,_ => by simp [mergeK]
  | kv :: r,kvs,nd => by
    have h1:kv.1 ∉ kvs.map (·.1):=by
      rw [List.map_append,List.nodup_append] at nd
      intro z
      exact nd.2.2 _ z kv.1 (by simp) rfl
    show mergeK (putK kvs kv.1 kv.2) r = _
    rw [putK_none h1,mergeK_nd (by simpa using nd)]
    simp
section
variable {te:TE} {Q:VK} {H:Hp} {caps:St}
theorem r_compDk {a:Addr} {o:Obj} {kvs:List (Key×V)} (hn:kvs.length <= 1000) (Pv:Addr -> Nat -> List V -> Hp -> Prop) (h0:∀ acc,H acc = none -> Pv acc 0 [] (upd H acc (.lst []))) (hl':∀ acc i ys H1,H acc = none -> i <= kvs.length -> Pv acc i ys H1 -> H1 a = some (.frz o (.dK kvs)))
    (hs:∀ acc i ys H1 k v,H acc = none -> kvs[i]? = some (k,v) -> ys.length = i -> H1 acc = some (.lst ys) -> Pv acc i ys H1 -> te (some (kV k) :: caps) H1 (cNext kvs.length acc (Pv acc) ys i))
    (hd:∀ acc ys H1,H acc = none -> H1 acc = some (.lst ys) -> ys.length = kvs.length -> Pv acc kvs.length ys H1 -> Q (.ref acc) H1):compK te none (gName 0) (List.replicate 1 none) caps Q (Itd a o kvs) H:=by
  intro acc hacc
  refine ⟨cW kvs.length acc (Pv acc),⟨kvs.length,by simp,Nat.zero_le _,rfl,upd_same,h0 acc hacc⟩,?_⟩
  rintro i m ys H1 ⟨rfl,hi,hl,ha,p⟩
  have q:=hl' acc i ys H1 hacc hi p
  refine ⟨ha,?_⟩
  by_cases hlt:i < kvs.length
  . refine .inr ⟨small1000 (by omega),⟨q,hlt⟩,fun us x H' hu y => ?_⟩
    obtain ⟨rfl,k,v,e,rfl⟩:=y
    obtain ⟨o,rfl⟩:=len1 hu
    exact ⟨⟨[some (kV k)],rfl,rfl⟩,hs acc i ys _ k v hacc e hl ha p⟩
  . have e:i = kvs.length:=by omega
    subst e
    exact .inl ⟨⟨q,Nat.le_refl _⟩,hd acc ys H1 hacc ha hl p⟩
end
noncomputable def Kp2 (a b:Addr) (H H':Hp):Prop:=∀ c o,c ≠ a -> c ≠ b -> H c = some o -> H' c = some o
theorem Kp2.refl {a b:Addr} (H:Hp):Kp2 a b H H:=fun _ _ _ _ h => h
theorem Kp2.trans {a b:Addr} {H H1 H2:Hp} (x:Kp2 a b H H1) (y:Kp2 a b H1 H2):Kp2 a b H H2:=fun c o h1 h2 h => y c o h1 h2 (x c o h1 h2 h)
theorem Same.kp2 {a b:Addr} {H H':Hp} (s:Same H H'):Kp2 a b H H':=fun c o _ _ h => s _ _ h
theorem Kp2.l {a b:Addr} {H:Hp} {o:HO}:Kp2 a b H (upd H a o):=fun c u h1 _ h => by rw [upd_ne h1]; exact h
theorem Kp2.r {a b:Addr} {H:Hp} {o:HO}:Kp2 a b H (upd H b o):=fun c u _ h2 h => by rw [upd_ne h2]; exact h
theorem Kp2.tk {a b:Addr} {H H':Hp} {x y:List (Key×V)} (k:Kp2 a b H H') (ha:H a = some (.dK x)) (hb:H b = some (.dK y)):TK H H':=fun p xs h => k p _ (ne_of h ha (by intro z; cases z)) (ne_of h hb (by intro z; cases z)) h
theorem Kp2.lst {a b p:Addr} {H H':Hp} {x y:List (Key×V)} {xs:List V} (k:Kp2 a b H H') (ha:H a = some (.dK x)) (hb:H b = some (.dK y)) (h:H p = some (.lst xs)):H' p = some (.lst xs):=k p _ (ne_of h ha (by intro z; cases z)) (ne_of h hb (by intro z; cases z)) h
theorem Kp2.same {a b:Addr} {H0 H H':Hp} (k:Kp2 a b H H') (s:Same H0 H) (ha:H0 a = none) (hb:H0 b = none):Same H0 H':=fun c o h => k c o (ne_of_none h ha) (ne_of_none h hb) (s _ _ h)
structure NetIn (H:Hp) (l:Addr) (net:List (RunD Key)) (D M:Nat):Prop where
  lq:LQ RunQ H l net
  len:net.length <= 120
  bd:∀ r ∈ net,Bd D M r.2.2
  pos:∀ r ∈ net,0 < r.2.2
structure PsIn (H:Hp) (l:Addr) (ps:List (Key×Rat)) (D M:Nat):Prop where
  lq:LQ KvQ H l ps
  len:ps.length <= 100
  bd:∀ r ∈ ps,Bd D M r.2
structure TsIn (H:Hp) (v:V) (ts:List (Key×Rat)):Prop where
  lq:(v = .non /\ ts = []) ∨ ∃ l,v = .ref l /\ LQ KvQ H l ts
  len:ts.length <= 100
  sz:∀ r ∈ ts,Sz 8000 r.2
structure Room8 (D M:Nat):Prop where
  ne:D ≠ 0
  d:D < 2 ^ 8000
  m:M * 1000 * D < 2 ^ 8000
theorem Room8.sz {D M N:Nat} {q:Rat} (R:Room8 D M) (h:Bd D N q) (hn:N <= M * 1000):Sz 8000 q:=h.sz R.ne R.d (Nat.lt_of_le_of_lt (Nat.mul_le_mul_right _ hn) R.m)
theorem LQ.sm {β:Type} {R:Hp -> V -> β -> Prop} {H H':Hp} {l:Addr} {ds:List β} (h:LQ R H l ds) (hR:∀ {H H' v b},R H v b -> TK H H' -> R H' v b) (s:Same H H'):LQ R H' l ds:=h.same (fun v b q => hR q s.tk) s
theorem DQ.sm {β:Type} {R:Hp -> V -> β -> Prop} {H H':Hp} {l:Addr} {ds:List (Key×β)} (h:DQ R H l ds) (hR:∀ {H H' v b},R H v b -> TK H H' -> R H' v b) (s:Same H H'):DQ R H' l ds:=let ⟨k,a,b⟩:=h; ⟨k,s _ _ a,b.imp fun v b q => hR q s.tk⟩
theorem NetIn.sm {H H':Hp} {l:Addr} {net:List (RunD Key)} {D M:Nat} (h:NetIn H l net D M) (s:Same H H'):NetIn H' l net D M:=⟨h.lq.sm RunQ.tk s,h.len,h.bd,h.pos⟩
theorem PsIn.sm {H H':Hp} {l:Addr} {ps:List (Key×Rat)} {D M:Nat} (h:PsIn H l ps D M) (s:Same H H'):PsIn H' l ps D M:=⟨h.lq.sm KvQ.tk s,h.len,h.bd⟩
theorem TsIn.sm {H H':Hp} {v:V} {ts:List (Key×Rat)} (h:TsIn H v ts) (s:Same H H'):TsIn H' v ts:=⟨h.lq.imp id fun ⟨l,e,q⟩ => ⟨l,e,q.sm KvQ.tk s⟩,h.len,h.sz⟩
theorem Bes.k2 {H H':Hp} {d a b:Addr} {net:List (RunD Key)} {x y:List (Key×V)} (h:Bes H d net) (k:Kp2 a b H H') (ha:H a = some (.dK x)) (hb:H b = some (.dK y)) (h1:d ≠ a) (h2:d ≠ b):Bes H' d net:=by
  obtain ⟨kvs,f,z1,z2,z3,z4,z5⟩:=h
  refine ⟨kvs,f,k _ _ h1 h2 z1,z2,z3,z4,fun p v e => ?_⟩
  obtain ⟨l,rfl,vs,q1,q2⟩:=z5 p v e
  exact ⟨l,rfl,vs,k.lst ha hb q1,Pd.imp q2 (NpQ.imp (k.tk ha hb))⟩
theorem Bes.sm {H H':Hp} {d:Addr} {net:List (RunD Key)} (h:Bes H d net) (s:Same H H'):Bes H' d net:=by
  obtain ⟨kvs,f,z1,z2,z3,z4,z5⟩:=h
  exact ⟨kvs,f,s _ _ z1,z2,z3,z4,fun p v e => let ⟨l,a,q⟩:=z5 p v e; ⟨l,a,q.sm NpQ.tk s⟩⟩
section
variable {σ:St} {H:Hp} {Q:VK} {K:PySem.W.Frag}
theorem r_orL {vt:V} {ts:List (Key×Rat)} (h:TsIn H vt ts) (k:∀ lt H1,Same H H1 -> LQ KvQ H1 lt ts -> Q (.ref lt) H1):∃ b,TruV K vt H b /\ if b = true then Q vt H else tLst tNil σ H Q:=by
  have hn:ts = [] -> tLst tNil σ H Q:=fun e => by
    subst e
    exact r_lst (r_nil (r_lstK fun p hp => k p _ (Same.new hp) ⟨[],upd_same,.nil⟩))
  rcases h.lq with ⟨rfl,e⟩ | ⟨l,rfl,q⟩
  . exact t_none (R:=fun b H => if b = true then Q .non H else tLst tNil σ H Q) (hn e)
  . obtain ⟨vs,q1,q2⟩:=q
    refine t_list (R:=fun b H => if b = true then Q (.ref l) H else tLst tNil σ H Q) q1 ?_
    cases q2 with
    | nil => exact hn rfl
    | cons a b => exact k l H (Same.refl _) ⟨_,q1,.cons a b⟩
theorem r_besG {d z:Addr} {c:Key} {net:List (RunD Key)} (B:Bes H d net) (hz:H z = some (.lst [])) (k:∀ l L,LQ NpQ H l L -> L.length <= 2 * net.length -> (∀ j x,(j,x) ∈ L ↔ ∃ r,net[j]? = some r /\ Jn r c x) -> Q (.ref l) H):∃ o,DGet H d (kV c) o /\ Q (o.getD (.ref z)) H:=by
  obtain ⟨kvs,f,z1,z2,z3,z4,z5⟩:=B
  refine ⟨valV kvs c,.inl ⟨kvs,c,.inl z1,rfl,rfl⟩,?_⟩
  have mem:∀ j x,(j,x) ∈ f c ↔ ∃ r,net[j]? = some r /\ Jn r c x:=fun j x => by
    rw [z2 c j x]
    exact ⟨fun h => h.2,fun h => ⟨let ⟨r,e,_⟩:=h; (List.getElem?_eq_some_iff.mp e).1,h⟩⟩
  cases e:valV kvs c with
  | none => exact k z (f c) (by rw [z4 c e]; exact ⟨[],hz,.nil⟩) (z3 c) mem
  | some v =>
    obtain ⟨l,rfl,q⟩:=z5 c v e
    exact k l (f c) q (z3 c) mem
end
theorem aget_nokey {β:Type} {m:AL Key β} {k:Key} (h:aget m k = none):k ∉ m.map (·.1):=fun z => by
  obtain ⟨y,hy,rfl⟩:=List.mem_map.mp z
  exact aget_none h y.2 hy
theorem t_dictI {K:PySem.W.Frag} {H:Hp} {p:Addr} {kvs:List (Key×V)} {A B:Prop} (h:H p = some (.dK kvs)) (k1:kvs ≠ [] -> A) (k2:kvs = [] -> B):∃ k,TruV K (.ref p) H k /\ if k = true then A else B:=by
  refine t_dict (R:=fun k _ => if k = true then A else B) h ?_
  cases kvs with
  | nil => exact k2 rfl
  | cons a b => exact k1 (by simp)
theorem FInv.imp {net:List (RunD Key)} {push:Key -> Option Rat} {tk:Nat -> Option Rat} {C C':Key -> Nat -> Key -> Prop} {W F:AL Key (EntD Key)} (I:FInv net push tk C W F) (h:∀ q k x r,net[k]? = some r -> Jn r q x -> C' q k x -> C q k x):FInv net push tk C' W F :=
  ⟨I.ndW,I.ndF,I.dis,I.sup,I.ord,I.mono,I.psh,fun q e hq k r p h1 h2 h3 h4 => I.clo q e hq k r p h1 h2 (h q k p r h1 h2 h3) h4⟩
noncomputable def univ (net:List (RunD Key)) (ps:List (Key×Rat)):List Key:=ps.map (·.1) ++ (net.map (·.1) ++ net.map (·.2.1))
theorem Sup.univ {net:List (RunD Key)} {ps:List (Key×Rat)} {tk:Nat -> Option Rat} {F:AL Key (EntD Key)} {p:Key} {e:EntD Key} (h:Sup net (aget (lst ps)) tk F p e):p ∈ univ net ps:=by
  obtain ⟨t,o⟩:=e
  cases o with
  | none =>
    have:=lst_mem (aget_mem (show aget (lst ps) p = some t from h))
    exact List.mem_append_left _ (List.mem_map.mpr ⟨_,this,rfl⟩)
  | some kq =>
    obtain ⟨r,e,h1,h2,_⟩:=h
    have hr:=List.mem_of_getElem? h1
    refine List.mem_append_right _ ?_
    rcases h2 with ⟨_,rfl⟩ | ⟨_,rfl⟩
    . exact List.mem_append_right _ (List.mem_map.mpr ⟨r,hr,rfl⟩)
    . exact List.mem_append_left _ (List.mem_map.mpr ⟨r,hr,rfl⟩)
theorem FInv.lens {net:List (RunD Key)} {ps:List (Key×Rat)} {tk:Nat -> Option Rat} {C:Key -> Nat -> Key -> Prop} {W F:AL Key (EntD Key)} (I:FInv net (aget (lst ps)) tk C W F):W.length <= ps.length + 2 * net.length /\ F.length <= ps.length + 2 * net.length:=by
  have hu:(univ net ps).length = ps.length + 2 * net.length:=by simp [univ]; omega
  rw [← hu]
  constructor
  . have:=nd_len (m:=univ net ps) I.ndW fun x hx => by
      obtain ⟨y,hy,rfl⟩:=List.mem_map.mp hx
      exact (I.sup y.1 y.2 hy).univ
    rwa [List.length_map] at this
  . have:=nd_len (m:=univ net ps) I.ndF fun x hx => by
      obtain ⟨y,hy,rfl⟩:=List.mem_map.mp hx
      obtain ⟨i,hi⟩:=List.getElem?_of_mem hy
      exact (I.ord i y.1 y.2 hi).univ
    rwa [List.length_map] at this
theorem pairs_of {β:Type} {R:Hp -> V -> β -> Prop} {H:Hp}:∀ {ys:List V} {m:List (Key×β)},Paired (fun v (x:Key×β) => ∃ a u,v = .ref a /\ H a = some (.tup [kV x.1,u]) /\ R H u x.2) ys m -> ∃ kvs,PairsAt H ys kvs /\ KQ R H kvs m
  | _,_,.nil => ⟨[],.nil,.nil⟩
  | _,_,.cons (b:=b) r t => by
    obtain ⟨a,u,rfl,h1,h2⟩:=r
    obtain ⟨kvs,p,q⟩:=pairs_of t
    exact ⟨(b.1,u) :: kvs,.cons ⟨a,rfl,h1⟩ p,.cons ⟨rfl,h2⟩ q⟩
theorem ix_LTc {X:Cx} {scope:Scope} {caps:List (Str×Addr)} {N:List Str} {C:Addr} {s0:Shared} {H0:Hp} {ex:List Addr}:IxR (cxComp X scope caps N C s0 H0 ex) (rIxLT X.K):=ix_LT
noncomputable def Srt (ys:List Str):Prop:=sortedS ys = true
noncomputable abbrev TRun:=Str×Str×Rat
noncomputable def kn (n:List TRun):List (RunD Key):=n.map fun r => (Sum.inr r.1,Sum.inr r.2.1,r.2.2)
noncomputable def names (n:List TRun):List Str:=n.map (·.1) ++ n.map (·.2.1)
theorem kn_at {n:List TRun} {i:Nat} {r:RunD Key} (h:(kn n)[i]? = some r):∃ s,n[i]? = some s /\ r = (Sum.inr s.1,Sum.inr s.2.1,s.2.2):=by
  unfold kn at h
  rw [List.getElem?_map] at h
  cases e:n[i]? with
  | none => rw [e] at h; cases h
  | some s => rw [e] at h; exact ⟨s,rfl,(Option.some.inj h).symm⟩
noncomputable def OptQ (H:Hp) (v:V) (o:Option Rat):Prop:=match o with | none => v = .non | some q => FrQ H v q
theorem OptQ.tk {H H':Hp} {v:V} {o:Option Rat} (h:OptQ H v o) (t:TK H H'):OptQ H' v o:=by
  cases o with
  | none => exact h
  | some q => exact FrQ.tk h t
theorem low_rat {t b:Int} (hb:b ≠ 0):(Rat.divInt t b).num = lowT t b /\ ((Rat.divInt t b).den:Int) = lowB t b:=rat_of hb (lowB_pos hb) (low_cop hb) (low_worth hb)
theorem FrQ.low {H:Hp} {t b:Int} {p:Addr} (hb:b ≠ 0) (h:H p = some (.tup [.int (lowT t b),.int (lowB t b)])):FrQ H (.ref p) (Rat.divInt t b):=⟨p,rfl,by rw [h,(low_rat hb).1,(low_rat hb).2]⟩
theorem low_pos {t b:Int} (ht:0 < t) (hb:0 < b):0 < Rat.divInt t b:=by
  rw [Rat.lt_iff,(low_rat (t:=t) (b:=b) (by omega)).1]
  show (0:Int) * _ < lowT t b * 1
  rw [Int.zero_mul,Int.mul_one]
  have e:=low_worth (t:=t) (b:=b) (by omega)
  have hp:=lowB_pos (t:=t) (b:=b) (by omega)
  have:0 < lowT t b * b:=by rw [e]; exact Int.mul_pos ht hp
  exact Int.pos_of_mul_pos_left this hb
noncomputable abbrev abc:Str:=Str.ofString "abcdefghijklmnopqrstuvwxyz"
theorem abc_len:abc.length = 26:=by decide +kernel
theorem abc_at:∀ j:Nat,j < 26 -> atI abc.cps.toList (j:Int) = some (97 + j):=by decide +kernel
section
variable {σ:St} {H:Hp} {Q:VK} {K:PySem.W.Frag}
theorem r_ixS {z:Str} {i:Int} {c:Nat} (hz:z.length <= 100000) (e:atI z.cps.toList i = some c) (k:Q (.str ⟨#[c]⟩) H):rIxLT K (.str z) (.int i) H Q:=.inr (.inr ⟨z,i,c,rfl,rfl,by rw [sizeLine_eq]; omega,e,k⟩)
theorem r_addS {a b:Str} (h:a.length + b.length <= 100000) (k:Q (.str (a ++ b)) H):rAddA K (.str a) (.str b) H Q:=.inr (.inr (.inr ⟨a,b,rfl,rfl,by rw [sizeLine_eq]; omega,k⟩))
theorem r_slS {z:Str} {lo hi:Option Int} (hz:z.length <= 100000) (k:∀ y:Str,y.length <= z.length -> Q (.str y) H):rSlS (.str z) lo hi H Q:=⟨z,rfl,by rw [sizeLine_eq]; omega,k _ (Txt.slice_le z _ _)⟩
end
theorem len_app (a b:Str):(a ++ b).length = a.length + b.length:=by
  show (a.cps ++ b.cps).size = _
  simp [Str.length]
theorem Kp.sm {p:Addr} {H H1 H2:Hp} (k:Kp p H1 H2) (s:Same H H1) (hp:H p = none):Same H H2:=fun b o h => k _ _ (ne_of_none h hp) (s _ _ h)
theorem net_in {H:Hp} {l:Addr} {n:List TRun} {D M:Nat} (lq:LQ RunQ H l (kn n)) (hl:n.length <= 120) (hb:∀ r ∈ n,Bd D M r.2.2) (hp:∀ r ∈ n,0 < r.2.2):NetIn H l (kn n) D M:=by
  refine ⟨lq,by simpa [kn] using hl,fun r hr => ?_,fun r hr => ?_⟩
  . obtain ⟨s,hs,rfl⟩:=List.mem_map.mp hr
    exact hb s hs
  . obtain ⟨s,hs,rfl⟩:=List.mem_map.mp hr
    exact hp s hs
noncomputable def dFr (q:Rat):Dt:=.tup [.int q.num,.int q.den]
theorem den_fr {H:Hp} {v:V} {q:Rat} (h:FrQ H v q):Den H (dFr q) v:=let ⟨p,e,h⟩:=h; e ▸ den2 h
noncomputable abbrev sA:Str:=Str.ofString "a"
noncomputable abbrev sB:Str:=Str.ofString "b"
noncomputable def F0:AL Key (EntD Key):=[(Sum.inr sB,(Rat.divInt 1 3,none)),(Sum.inr sA,(Rat.divInt 1 3 + Rat.divInt 1 2,some (0,Sum.inr sB)))]
theorem r_pow12 {H:Hp} {Q:VK} (k:Q (.int 1000000000000) H):rI CPow (fun i j => .int (i ^ j.toNat)) (.int 10) (.int 12) H Q:=r_I ⟨by decide,by decide,by decide⟩ k
end L2
namespace L2
open PySem PySem.Spec PyProof.Rows
section
variable {σ:St} {H:Hp} {Q:VK} {K:PySem.W.Frag}
end
noncomputable abbrev sC:Str:=Str.ofString "c"
noncomputable def n2:List TRun:=[(sA,sB,Rat.divInt 1 2),(sB,sC,Rat.divInt 1 3)]
end L2
namespace L2
open PySem PySem.Spec PyProof.Rows
section
variable {H:Hp} {Q:VK} {K:PySem.W.Frag} {σ:St} {D:Ends} {v:V}
end
theorem inV_ints {i:Int} {ys:List Int}:inV (.int i) (ys.map V.int) = decide (i ∈ ys):=by
  unfold inV
  induction ys with
  | nil => rfl
  | cons y r ih =>
    rw [List.map_cons,List.any_cons,ih]
    show ((y == i) || _) = _
    by_cases h:i = y
    . subst h
      simp
    . by_cases h2:i ∈ r
      . simp [h2]
      . simp [h2,h,Ne.symm h]
theorem flat_ints:∀ ys:List Int,(ys.map V.int).all flatV = true
  | [] => rfl
  | y :: r => by
    rw [List.map_cons,List.all_cons,flat_ints r]
    rfl
theorem r_inI {K:PySem.W.Frag} {H:Hp} {Q:VK} {p:Addr} {ys:List Int} {i:Int} (h:H p = some (.lst (ys.map V.int))) (k:Q (.bl (decide (i ∈ ys))) H):rIn K false (.int i) (.ref p) H Q:=⟨p,_,rfl,.inl (SqL.of h),rfl,flat_ints _,by rw [inV_ints]; exact k⟩
theorem pickS' {nm:List Str} {i:Int} (h0:0 <= i) (h1:i < nm.length):∃ s,s ∈ nm /\ atI (nm.map V.str) i = some (.str s):=by
  obtain ⟨z,hz,e⟩:=pickV (xs:=nm.map V.str) h0 (by rw [List.length_map]; exact h1)
  obtain ⟨s,hs,rfl⟩:=List.mem_map.mp hz
  exact ⟨s,hs,e⟩
end L2
namespace L2
open PySem PySem.Spec PyProof.Rows
noncomputable def gK {α:Type} (n:Nat) (us ws:List α):List α:=if us.length = n /\ ws.length = 1 then us ++ ws else []
theorem gK_rel {n:Nat} {vs zs:List V} {us ws:List Value} (h1:Vals vs us) (h2:Vals zs ws):Vals (gK n vs zs) (gK n us ws):=by
  unfold gK
  rw [h1.length,h2.length]
  split
  . exact h1.append h2
  . exact .nil
structure DfK (K:PySem.W.Frag) (mg:Str -> Option Value) (x:Str) (st:Stmt) (ps:List Str) (dvs:List V) (n:Nat) (ks:List Str):Prop where
  ex:∃ (f:Addr) (fd:FuncData),(∃ (oc:Value) (od:Option Addr) (dV kV doc pm:Value) (an:Option Addr) (cdv ct:Value) (osl:Array (Option Value)),
    fd = PySem.W.fnOf x x (defArgs st) (defBody st) (defScope st) dV kV doc pm an cdv ct /\ K.lookup f = some ⟨oc,od,.func fd,osl⟩ /\ PySem.W.codeIn K cdv x = true) /\ PySem.W.keepIn K (.ref f) = true /\ mg x = some (.ref f) /\ Binds K fd ps [] /\ (∃ ds,Vals dvs ds /\ Binds K fd ps ds) /\ KBinds K fd ps ks (gK n) (gK n)
structure OkfK (P:Program) (w:World) (K:PySem.W.Frag) (mg:Str -> Option Value) (base:Heap) (k:Nat) (x:Str) (ps:List Str) (dvs:List V) (n:Nat) (ks:List Str) (sp:Sp):Prop where
  ex:∃ (f:Addr) (fd:FuncData),mg x = some (.ref f) /\ PySem.W.keepIn K (.ref f) = true /\ Binds K fd ps [] /\ (∃ ds,Vals dvs ds /\ Binds K fd ps ds) /\ KBinds K fd ps ks (gK n) (gK n) /\ FnOk P w K mg base CX0 k f fd ps sp
theorem OkfK.mono {P:Program} {w:World} {K:PySem.W.Frag} {mg:Str -> Option Value} {base:Heap} {j k:Nat} {x:Str} {ps:List Str} {dvs:List V} {n:Nat} {ks:List Str} {sp:Sp} (o:OkfK P w K mg base j x ps dvs n ks sp) (h:j <= k):OkfK P w K mg base k x ps dvs n ks sp :=
  let ⟨f,fd,a,b,c,e,z,d⟩:=o.ex; ⟨f,fd,a,b,c,e,z,d.mono h⟩
theorem OkfK.d {P:Program} {w:World} {K:PySem.W.Frag} {mg:Str -> Option Value} {base:Heap} {k:Nat} {x:Str} {ps:List Str} {dvs:List V} {n:Nat} {ks:List Str} {sp:Sp} (o:OkfK P w K mg base k x ps dvs n ks sp):OkfD P w K mg base k x ps dvs sp :=
  let ⟨f,fd,a,b,c,e,_,d⟩:=o.ex; ⟨f,fd,a,b,c,e,d⟩
theorem OkfK.of {P:Program} {w:World} {K:PySem.W.Frag} {mg:Str -> Option Value} {base:Heap} {k:Nat} {x:Str} {st:Stmt} {N ps:List Str} {dvs:List V} {n:Nat} {ks:List Str} {sp:Sp} (d:DfK K mg x st ps dvs n ks) (S:FnScope N ps (defScope st)) (len:∀ vs H Q E,sp vs H Q E -> vs.length = ps.length)
    (hbody:∀ (f:Addr) (cdv:Value) (A:Around) (outer:List Env) (s:Shared) (H:Hp) (vs:List V) (Q:VK) (E:XK),Room k (A.deeper (envOfC x (defScope st) s.heap.objs.size f cdv)) -> sp vs H Q E ->
      ∃ t,PSs (cxOf CX0 P w K mg base N x (defScope st) f cdv A outer s H E).nox (defBody st) t /\ t { nx:=fun _ H' => Q .non H',rt:=Q } (start N vs) H):OkfK P w K mg base (k + 1) x ps dvs n ks sp:=by
  obtain ⟨f,fd,⟨oc,od,dV,kV,doc,pm,an,cdv,ct,osl,rfl,lk,hcd⟩,kp,a,b,b2,b3⟩:=d.ex
  refine ⟨f,_,a,kp,b,b2,b3,fn_of lk hcd S len fun A outer s H vs Q E hr hsp => ?_⟩
  obtain ⟨t,h,q⟩:=hbody f cdv A outer s H vs Q E hr hsp
  exact ⟨t,h.nox,q⟩
theorem dfk_mk {K:PySem.W.Frag} {mg:Str -> Option Value} {h:Heap} {x:Str} {st:Stmt} {ps:List Str} {f T:Addr} {oc:Value} {od an:Option Addr} {osl:Array (Option Value)} {kV doc pm cdv ct:Value} {o:Obj} {items:Array Value} {n:Nat} {dvs:List V} {ds:List Value} {m:Nat} {ks:List Str} (X:K.In h) (G:h.Ns mainGlobals mg)
    (a:PySem.W.nsIn K mainGlobals x = some (some (.ref f))) (l:K.lookup f = some ⟨oc,od,.func (PySem.W.fnOf x x (defArgs st) (defBody st) (defScope st) (.ref T) kV doc pm an cdv ct),osl⟩)
    (c:PySem.W.codeIn K cdv x = true) (k:PySem.W.keepIn K (.ref f) = true) (t:K.lookup T = some o) (ho:o.data = .seq items n)
    (b:∀ (s:Shared) (us:List Value),s.heap.get? T = some o -> us.length = ps.length -> BindsTo s (PySem.W.fnOf x x (defArgs st) (defBody st) (defScope st) (.ref T) kV doc pm an cdv ct) ⟨us,[]⟩ (ps.zip us)) (hv:Vals dvs ds)
    (b2:∀ (s:Shared) (us:List Value),s.heap.get? T = some o -> (us ++ ds).length = ps.length -> BindsTo s (PySem.W.fnOf x x (defArgs st) (defBody st) (defScope st) (.ref T) kV doc pm an cdv ct) ⟨us,[]⟩ (ps.zip (us ++ ds)))
    (hps:ps.length ≠ 0) (b3:∀ (s:Shared) (us ws:List Value),s.heap.get? T = some o -> us.length = m -> ws.length = 1 -> BindsTo s (PySem.W.fnOf x x (defArgs st) (defBody st) (defScope st) (.ref T) kV doc pm an cdv ct) ⟨us,ks.zip ws⟩ (ps.zip (us ++ ws))):DfK K mg x st ps dvs m ks :=
  ⟨f,_,⟨oc,od,.ref T,kV,doc,pm,an,cdv,ct,osl,rfl,l,c⟩,k,PySem.W.mg_of X G a,fun s us KI hl => by rw [List.append_nil] at hl ⊢; exact b s us (KI T o t) hl,⟨ds,hv,fun s us KI hl => b2 s us (KI T o t) hl⟩,fun s us ws KI hl => by
    unfold gK at hl ⊢
    split
    . next z => exact b3 s us ws (KI T o t) z.1 z.2
    . next z => rw [if_neg z] at hl; exact absurd hl.symm hps,fun h1 h2 => gK_rel h1 h2⟩
section
variable {X:Cx} {k n:Nat} {x:Str} {ps ks:List Str} {dvs:List V} {sp:Sp} {p pos:Pos} {e:Expr} {es:List Expr} {kws:List Keyword} {t tk:TA}
end
theorem r_cut {s:TS} {D:Ends} {σ:St} {H:Hp} (J:St -> Hp -> Prop) (hJ:∀ σ H,J σ H -> D.nx σ H) (k:∀ NX:St -> Hp -> Prop,(∀ σ H,J σ H -> NX σ H) -> s ⟨NX,D.rt,D.bk,D.ct⟩ σ H):s D σ H:=k D.nx hJ
section
variable {σ:St} {H:Hp} {Q:VK} {K:PySem.W.Frag}
end
noncomputable def n3:List TRun:=[(sA,sB,Rat.divInt 1 2),(sB,sC,Rat.divInt 1 1)]
noncomputable def ts3:List (Key×Rat):=[(Sum.inl 0,Rat.divInt 1 2),(Sum.inl 1,Rat.divInt 1 1)]
noncomputable def tk3:Nat -> Option Rat:=fun k => aget (lst ts3) (Sum.inl (k:Int))
end L2
namespace L2
open PySem PySem.Spec PyProof.Rows
section
variable {X:Cx}
noncomputable def mixN (H:Hp) (x y:V):Prop:=(x = .non /\ ∃ p xs,y = .ref p /\ H p = some (.tup xs)) ∨ (y = .non /\ ∃ p xs,x = .ref p /\ H p = some (.tup xs))
noncomputable def rEqN:R2:=fun x y H Q => mixN H x y /\ Q (.bl false) H
noncomputable def rNeN:R2:=fun x y H Q => mixN H x y /\ Q (.bl true) H
theorem op_eqN (hu:X.A.units + 64 < cLine):OpR X (compareOp .Eq) rEqN:=by
  intro pins s σ H x y v u Q I rx ry h
  obtain ⟨h1 | h1,q⟩:=h
  . obtain ⟨rfl,p,xs,rfl,hp⟩:=h1
    cases rx
    cases ry
    obtain ⟨its,r,t⟩:=tup_at I hp
    exact SeqAt.RcAt.none_tuple t (by omega) _ _ _ _ ⟨.bl _,H,I,rfl,q⟩
  . obtain ⟨rfl,p,xs,rfl,hp⟩:=h1
    cases rx
    cases ry
    obtain ⟨its,r,t⟩:=tup_at I hp
    exact SeqAt.RcAt.tuple_none t (by omega) _ _ _ _ ⟨.bl _,H,I,rfl,q⟩
theorem op_neN (hu:X.A.units + 64 < cLine):OpR X (compareOp .NotEq) rNeN:=by
  intro pins s σ H x y v u Q I rx ry h
  obtain ⟨h1 | h1,q⟩:=h
  . obtain ⟨rfl,p,xs,rfl,hp⟩:=h1
    cases rx
    cases ry
    obtain ⟨its,r,t⟩:=tup_at I hp
    exact SeqAt.RcNeAt.none_tuple t (by omega) _ _ _ _ ⟨.bl _,H,I,rfl,q⟩
  . obtain ⟨rfl,p,xs,rfl,hp⟩:=h1
    cases rx
    cases ry
    obtain ⟨its,r,t⟩:=tup_at I hp
    exact SeqAt.RcNeAt.tuple_none t (by omega) _ _ _ _ ⟨.bl _,H,I,rfl,q⟩
noncomputable def rEqB:R2:=fun x y H Q => rEqA x y H Q ∨ rEqN x y H Q
noncomputable def rNeB:R2:=fun x y H Q => rNeA x y H Q ∨ rNeN x y H Q
theorem op_eqB (hu:X.A.units + 64 < cLine):OpR X (compareOp .Eq) rEqB:=(op_eqA hu).or (op_eqN hu)
theorem op_neB (hu:X.A.units + 64 < cLine):OpR X (compareOp .NotEq) rNeB:=(op_neA hu).or (op_neN hu)
end
section
variable {H:Hp} {Q:VK} {u v:V} {a b:Option Rat}
theorem rat_dec {q r:Rat}:decide (q.num = r.num /\ (q.den:Int) = (r.den:Int)) = decide (some q = some r):=by
  rw [Bool.eq_iff_iff,decide_eq_true_iff,decide_eq_true_iff]
  constructor
  . rintro ⟨h1,h2⟩
    exact congrArg some (Rat.ext h1 (by omega))
  . intro h
    cases h
    exact ⟨rfl,rfl⟩
theorem e_opt (h1:OptQ H v a) (h2:OptQ H u b) (k:Q (.bl (decide (a = b))) H):rEqB v u H Q:=by
  cases a with
  | none =>
    cases (show v = .non from h1)
    cases b with
    | none =>
      cases (show u = .non from h2)
      exact .inl (.inl ⟨rfl,by simpa using k⟩)
    | some r =>
      obtain ⟨p,rfl,hp⟩:=id (show FrQ H u r from h2)
      exact .inr ⟨.inl ⟨rfl,p,_,rfl,hp⟩,by simpa using k⟩
  | some q =>
    obtain ⟨p,rfl,hp⟩:=id (show FrQ H v q from h1)
    cases b with
    | none =>
      cases (show u = .non from h2)
      exact .inr ⟨.inr ⟨rfl,p,_,rfl,hp⟩,by simpa using k⟩
    | some r =>
      obtain ⟨p2,rfl,hp2⟩:=id (show FrQ H u r from h2)
      exact .inl (e_2 hp hp2 (by rw [rat_dec]; exact k))
theorem n_opt (h1:OptQ H v a) (h2:OptQ H u b) (k:Q (.bl (!decide (a = b))) H):rNeB v u H Q:=by
  cases a with
  | none =>
    cases (show v = .non from h1)
    cases b with
    | none =>
      cases (show u = .non from h2)
      exact .inl (.inl ⟨rfl,by simpa using k⟩)
    | some r =>
      obtain ⟨p,rfl,hp⟩:=id (show FrQ H u r from h2)
      exact .inr ⟨.inl ⟨rfl,p,_,rfl,hp⟩,by simpa using k⟩
  | some q =>
    obtain ⟨p,rfl,hp⟩:=id (show FrQ H v q from h1)
    cases b with
    | none =>
      cases (show u = .non from h2)
      exact .inr ⟨.inr ⟨rfl,p,_,rfl,hp⟩,by simpa using k⟩
    | some r =>
      obtain ⟨p2,rfl,hp2⟩:=id (show FrQ H u r from h2)
      exact .inl (n_2 hp hp2 (by rw [rat_dec]; exact k))
end
section
variable {net:List (RunD Key)} {a b:Key} {m:Rat} {tk:Nat -> Option Rat} {f:Key -> Option Rat}
end
end L2
namespace L2
open PySem PySem.Spec PyProof.Rows
noncomputable def fW (n:Nat) (acc:Addr) (Pv:Nat -> List V -> Hp -> Prop):Nat -> Nat -> List V -> Hp -> Prop:=fun i m ys H1 => m = n - i /\ i <= n /\ ys.length <= i /\ H1 acc = some (.lst ys) /\ Pv i ys H1
noncomputable def fNext (n:Nat) (acc:Addr) (Pv:Nat -> List V -> Hp -> Prop) (ys:List V) (i:Nat):VK:=fun y H3 => H3 acc = some (.lst ys) /\ ∃ m',m' < n - i /\ fW n acc Pv (i + 1) m' (ys ++ [y]) (upd H3 acc (.lst (ys ++ [y])))
noncomputable def fSkip (n:Nat) (acc:Addr) (Pv:Nat -> List V -> Hp -> Prop) (ys:List V) (i:Nat) (H3:Hp):Prop:=∃ m',m' < n - i /\ fW n acc Pv (i + 1) m' ys H3
theorem f_next {n:Nat} {acc:Addr} {Pv:Nat -> List V -> Hp -> Prop} {ys:List V} {i:Nat} {y:V} {H3:Hp} (hlt:i < n) (hl:ys.length <= i) (ha:H3 acc = some (.lst ys)) (p:Pv (i + 1) (ys ++ [y]) (upd H3 acc (.lst (ys ++ [y])))):fNext n acc Pv ys i y H3 :=
  ⟨ha,n - (i + 1),by omega,rfl,hlt,by rw [List.length_append]; simp; exact hl,upd_same,p⟩
theorem f_skip {n:Nat} {acc:Addr} {Pv:Nat -> List V -> Hp -> Prop} {ys:List V} {i:Nat} {H3:Hp} (hlt:i < n) (hl:ys.length <= i) (ha:H3 acc = some (.lst ys)) (p:Pv (i + 1) ys H3):fSkip n acc Pv ys i H3 :=
  ⟨n - (i + 1),by omega,rfl,hlt,by omega,ha,p⟩
section
variable {te:TE} {Q:VK} {H:Hp} {caps:St} {K:PySem.W.Frag}
end
section
variable {X:Cx} {tg:Expr}
end
section
variable {σ:St} {H:Hp} {D:Ends} {K:PySem.W.Frag}
end
section
variable {X:Cx}
end
section
variable {H:Hp} {Q:VK}
end
end L2
namespace L2
open PySem PySem.Spec PyProof.Rows
section
variable {net:List (RunD Key)} {push:Key -> Option Rat} {tk:Nat -> Option Rat}
end
noncomputable def but (ks:List Nat) (j:Nat):List Nat:=ks.filter fun k => decide (k ≠ j)
section
variable {X:Cx} {scope:Scope} {caps:List (Str×Addr)} {N:List Str} {C:Addr} {s0:Shared} {H0:Hp} {ex:List Addr}
end
section
variable {te:TE} {Q:VK} {H:Hp} {caps:St} {K:PySem.W.Frag} {σ:St}
end
theorem op_addAc {X:Cx} {scope:Scope} {caps:List (Str×Addr)} {N:List Str} {C:Addr} {s0:Shared} {H0:Hp} {ex:List Addr}:OpR (cxComp X scope caps N C s0 H0 ex) (binaryOp .Add) (rAddA X.K):=op_addA
end L2
namespace L2
open PySem PySem.Spec PyProof.Rows
mutual
theorem Den.inj {H:Hp}:∀ (d e:Dt) {x:V},Den H d x -> Den H e x -> d = e
  | .tup ds,.tup es,x,h1,h2 => by
    obtain ⟨p,vs,rfl,a,b⟩:=h1
    obtain ⟨q,ws,e1,c,d⟩:=h2
    cases e1
    rw [a] at c
    cases c
    rw [DenL.inj ds es b d]
  | .lst ds,.lst es,x,h1,h2 => by
    obtain ⟨p,vs,rfl,a,b⟩:=h1
    obtain ⟨q,ws,e1,c,d⟩:=h2
    cases e1
    rw [a] at c
    cases c
    rw [DenL.inj ds es b d]
  | .tup ds,.lst es,x,h1,h2 => by
    obtain ⟨p,vs,rfl,a,b⟩:=h1
    obtain ⟨q,ws,e1,c,d⟩:=h2
    cases e1
    rw [a] at c
    cases c
  | .lst ds,.tup es,x,h1,h2 => by
    obtain ⟨p,vs,rfl,a,b⟩:=h1
    obtain ⟨q,ws,e1,c,d⟩:=h2
    cases e1
    rw [a] at c
    cases c
  | .non,e,x,h1,h2 => by
    have h1:x = .non:=h1
    subst h1
    cases e <;> first | rfl | (have h2:V.non = _:=h2; cases h2) | (obtain ⟨_,_,z,_⟩:=h2; cases z)
  | .bl b,e,x,h1,h2 => by
    have h1:x = .bl b:=h1
    subst h1
    cases e <;> first | (have h2:V.bl b = _:=h2; cases h2; rfl) | (have h2:V.bl b = _:=h2; cases h2; done) | (obtain ⟨_,_,z,_⟩:=h2; cases z)
  | .int b,e,x,h1,h2 => by
    have h1:x = .int b:=h1
    subst h1
    cases e <;> first | (have h2:V.int b = _:=h2; cases h2; rfl) | (have h2:V.int b = _:=h2; cases h2; done) | (obtain ⟨_,_,z,_⟩:=h2; cases z)
  | .str b,e,x,h1,h2 => by
    have h1:x = .str b:=h1
    subst h1
    cases e <;> first | (have h2:V.str b = _:=h2; cases h2; rfl) | (have h2:V.str b = _:=h2; cases h2; done) | (obtain ⟨_,_,z,_⟩:=h2; cases z)
  | .tup ds,.non,x,h1,h2 => by obtain ⟨p,vs,rfl,_⟩:=h1; have h2:V.ref p = _:=h2; cases h2
  | .tup ds,.bl _,x,h1,h2 => by obtain ⟨p,vs,rfl,_⟩:=h1; have h2:V.ref p = _:=h2; cases h2
  | .tup ds,.int _,x,h1,h2 => by obtain ⟨p,vs,rfl,_⟩:=h1; have h2:V.ref p = _:=h2; cases h2
  | .tup ds,.str _,x,h1,h2 => by obtain ⟨p,vs,rfl,_⟩:=h1; have h2:V.ref p = _:=h2; cases h2
  | .lst ds,.non,x,h1,h2 => by obtain ⟨p,vs,rfl,_⟩:=h1; have h2:V.ref p = _:=h2; cases h2
  | .lst ds,.bl _,x,h1,h2 => by obtain ⟨p,vs,rfl,_⟩:=h1; have h2:V.ref p = _:=h2; cases h2
  | .lst ds,.int _,x,h1,h2 => by obtain ⟨p,vs,rfl,_⟩:=h1; have h2:V.ref p = _:=h2; cases h2
  | .lst ds,.str _,x,h1,h2 => by obtain ⟨p,vs,rfl,_⟩:=h1; have h2:V.ref p = _:=h2; cases h2
theorem DenL.inj {H:Hp}:∀ (ds es:List Dt) {xs:List V},DenL H ds xs -> DenL H es xs -> ds = es
  | [],[],xs,_,_ => rfl
  | [],e :: es,xs,h1,h2 => by
    have h1:xs = []:=h1
    subst h1
    obtain ⟨_,_,z,_⟩:=h2
    cases z
  | d :: ds,[],xs,h1,h2 => by
    have h2:xs = []:=h2
    subst h2
    obtain ⟨_,_,z,_⟩:=h1
    cases z
  | d :: ds,e :: es,xs,h1,h2 => by
    obtain ⟨v,r,rfl,a,b⟩:=h1
    obtain ⟨v',r',z,a',b'⟩:=h2
    cases z
    rw [Den.inj d e a a',DenL.inj ds es b b']
end
end L2
namespace L2
open PySem PySem.Spec PyProof.Rows
section
variable {prog:Program} {w:World} {A:Around} {E:Value -> Shared -> Prop} {s:Shared} {r:Addr}
end
end L2
namespace L2
open PySem PySem.Spec PyProof.Rows
section
variable {X:Cx} {a:Expr} {ta:TE}
end
section
variable {te:TE} {Q:VK} {H:Hp} {caps:St}
end
end L2
namespace L2
open PySem PySem.Spec PyProof.Rows
section
variable (net:List (RunD Key)) (tk:Nat -> Option Rat) (f:Key -> Option Rat) (s:Key)
end
section
variable {net:List (RunD Key)} {push:Key -> Option Rat} {tk:Nat -> Option Rat} {F:AL Key (EntD Key)}
end
section
variable {c m:Nat -> Int}
end
section
variable {σ:St} {H:Hp} {D:Ends} {K:PySem.W.Frag}
theorem r_forRo {lo:Int} {n:Nat} {g:TG} {tb:TS} (Pv:Nat -> St -> Hp -> Prop) (h0:Pv 0 σ H)
    (hs:∀ (P':Nat -> St -> Hp -> Prop) (rt:VK) (bk:St -> Hp -> Prop),(∀ i σ H,Pv i σ H -> P' i σ H) -> ∀ i σ H,i < n -> Pv i σ H -> g (.int (lo + i)) σ H fun σ2 H2 => tb ⟨P' (i + 1),rt,bk,P' (i + 1)⟩ σ2 H2) (hd:∀ σ H,Pv n σ H -> D.nx σ H):forK g tb D σ (Itr lo n) H:=r_forR Pv h0 (hs Pv D.rt D.nx fun _ _ _ h => h) hd
theorem r_forLo {a:Addr} {xs:List V} {g:TG} {tb:TS} (Pv:Nat -> St -> Hp -> Prop) (h0:Pv 0 σ H) (hl:∀ i σ H,i <= xs.length -> Pv i σ H -> SqL K H a xs)
    (hs:∀ (P':Nat -> St -> Hp -> Prop) (rt:VK) (bk:St -> Hp -> Prop),(∀ i σ H,Pv i σ H -> P' i σ H) -> ∀ i x σ H,xs[i]? = some x -> Pv i σ H -> g x σ H fun σ2 H2 => tb ⟨P' (i + 1),rt,bk,P' (i + 1)⟩ σ2 H2) (hd:∀ σ H,Pv xs.length σ H -> D.nx σ H):forK g tb D σ (Itl K a) H:=r_forL Pv h0 hl (hs Pv D.rt D.nx fun _ _ _ h => h) hd
end
end L2
namespace L2
open PySem PySem.Spec PyProof.Rows
section
variable {net:List (RunD Key)} {push push':Key -> Option Rat} {tk tk':Nat -> Option Rat}
end
section
variable {net:List (RunD Key)} {push push':Key -> Option Rat} {tk tk':Nat -> Option Rat}
end
section
variable {n:List TRun} {ps:List (Key×Rat)} {tk:Nat -> Option Rat} {f:Key -> Option Rat} {y:Str} {ms:List Rat}
end
theorem len2 {us:St} (h:us.length = 2):∃ o p,us = [o,p]:=by
  cases us with
  | nil => cases h
  | cons o us => cases us with
    | nil => cases h
    | cons p us => cases us with
      | nil => exact ⟨o,p,rfl⟩
      | cons q us => cases h
section
variable {te:TE} {Q:VK} {H:Hp} {caps:St} {K:PySem.W.Frag}
theorem r_compPT {c:TT} {a:Addr} {xs:List V} (hn:xs.length <= 1000) (Pv:Addr -> Nat -> List V -> Hp -> Prop) (h0:∀ acc,H acc = none -> Pv acc 0 [] (upd H acc (.lst []))) (hl':∀ acc i ys H1,H acc = none -> i <= xs.length -> Pv acc i ys H1 -> SqL K H1 a xs)
    (hs:∀ acc i ys H1 x,H acc = none -> xs[i]? = some x -> ys.length <= i -> H1 acc = some (.lst ys) -> Pv acc i ys H1 -> ∃ p u v,x = .ref p /\ H1 p = some (.tup [u,v]) /\ c (some u :: some v :: caps) H1 fun b H3 => if b = true then te (some u :: some v :: caps) H3 (fNext xs.length acc (Pv acc) ys i) else fSkip xs.length acc (Pv acc) ys i H3)
    (hd:∀ acc ys H1,H acc = none -> H1 acc = some (.lst ys) -> ys.length <= xs.length -> Pv acc xs.length ys H1 -> Q (.ref acc) H1):compK te (some c) (gTup K 2 (gCons (gName 0) (gCons (gName 1) gNil))) (List.replicate 2 none) caps Q (Itl K a) H:=by
  intro acc hacc
  refine ⟨fW xs.length acc (Pv acc),⟨xs.length,by simp,Nat.zero_le _,Nat.le_refl _,upd_same,h0 acc hacc⟩,fun i m ys H1 hW => ?_⟩
  obtain ⟨rfl,hi,hl,ha,p⟩:=hW
  have q:=hl' acc i ys H1 hacc hi p
  refine ⟨ha,?_⟩
  rcases Nat.lt_or_ge i xs.length with hlt | hge
  . refine .inr ⟨small1000 (Nat.le_trans hl (by omega)),⟨xs,xs[i],q,by simp [hlt]⟩,fun us x H' hu z => ?_⟩
    obtain ⟨rfl,z⟩:=z
    obtain ⟨o1,o2,rfl⟩:=len2 hu
    obtain ⟨b,u,v,rfl,hb,k⟩:=hs acc i ys H' x hacc (z xs q) hl ha p
    exact r_gtup2 hb ⟨u,[v],rfl,v,[],rfl,rfl,⟨[some u,some v],rfl,rfl⟩,k⟩
  . cases (Nat.le_antisymm hi hge:i = xs.length)
    exact .inl ⟨⟨xs,q,Nat.le_refl _⟩,hd acc ys H1 hacc ha hl p⟩
theorem r_compP {a:Addr} {xs:List V} (hn:xs.length <= 1000) (Pv:Addr -> Nat -> List V -> Hp -> Prop) (h0:∀ acc,H acc = none -> Pv acc 0 [] (upd H acc (.lst []))) (hl':∀ acc i ys H1,H acc = none -> i <= xs.length -> Pv acc i ys H1 -> SqL K H1 a xs)
    (hs:∀ acc i ys H1 x,H acc = none -> xs[i]? = some x -> ys.length = i -> H1 acc = some (.lst ys) -> Pv acc i ys H1 -> ∃ p u v,x = .ref p /\ H1 p = some (.tup [u,v]) /\ te (some u :: some v :: caps) H1 (cNext xs.length acc (Pv acc) ys i))
    (hd:∀ acc ys H1,H acc = none -> H1 acc = some (.lst ys) -> ys.length = xs.length -> Pv acc xs.length ys H1 -> Q (.ref acc) H1):compK te none (gTup K 2 (gCons (gName 0) (gCons (gName 1) gNil))) (List.replicate 2 none) caps Q (Itl K a) H:=by
  intro acc hacc
  refine ⟨cW xs.length acc (Pv acc),⟨xs.length,by simp,Nat.zero_le _,rfl,upd_same,h0 acc hacc⟩,fun i m ys H1 hW => ?_⟩
  obtain ⟨rfl,hi,hl,ha,p⟩:=hW
  have q:=hl' acc i ys H1 hacc hi p
  refine ⟨ha,?_⟩
  rcases Nat.lt_or_ge i xs.length with hlt | hge
  . refine .inr ⟨small1000 (by omega),⟨xs,xs[i],q,by simp [hlt]⟩,fun us x H' hu z => ?_⟩
    obtain ⟨rfl,z⟩:=z
    obtain ⟨o1,o2,rfl⟩:=len2 hu
    obtain ⟨b,u,v,rfl,hb,k⟩:=hs acc i ys H' x hacc (z xs q) hl ha p
    exact r_gtup2 hb ⟨u,[v],rfl,v,[],rfl,rfl,⟨[some u,some v],rfl,rfl⟩,k⟩
  . cases (Nat.le_antisymm hi hge:i = xs.length)
    exact .inl ⟨⟨xs,q,Nat.le_refl _⟩,hd acc ys H1 hacc ha hl p⟩
end
theorem pg_tupc {X:Cx} {scope:Scope} {caps:List (Str×Addr)} {N:List Str} {C:Addr} {s0:Shared} {H0:Hp} {ex:List Addr} {es:List Expr} {k:Nat} {t:TGs} {n:Nat} {pos:Pos} (hc:(cxComp X scope caps N C s0 H0 ex).calm = true) (h:PGs (cxComp X scope caps N C s0 H0 ex) es t)
    (hn:(assignEach es (cxComp X scope caps N C s0 H0 ex).env).length = n:=by rfl) (hst:(assignEach es (cxComp X scope caps N C s0 H0 ex).env).findIdx? (·.1) = none:=by rfl):PG (cxComp X scope caps N C s0 H0 ex) (.Tuple es k pos) (gTup X.K n t):=pg_tup hc h hn hst
end L2
namespace L2
open PySem PySem.Spec PyProof.Rows
theorem op_in_seqc {X:Cx} {scope:Scope} {caps:List (Str×Addr)} {N:List Str} {C:Addr} {s0:Shared} {H0:Hp} {ex:List Addr}:OpR (cxComp X scope caps N C s0 H0 ex) (compareOp .In) (rIn X.K false):=op_in_seq
end L2
namespace L2
open PySem PySem.Spec PyProof.Rows
theorem mul_low (q r:Rat):Rat.divInt (q.num * r.num) ((q.den:Int) * r.den) = q * r:=by
  rw [← Rat.divInt_mul_divInt,Rat.num_divInt_den,Rat.num_divInt_den]
theorem div_low (q r:Rat):Rat.divInt (q.num * r.den) ((q.den:Int) * r.num) = q / r:=by
  rw [Rat.div_def,← Rat.divInt_mul_divInt,Rat.num_divInt_den]
  congr 1
  rw [← Rat.inv_divInt,Rat.num_divInt_den]
noncomputable def shr (o:Option Rat) (T m:Rat):Rat:=match o with | none => 0 | some f => if m < f then 0 else (m - f) / T
noncomputable def lateB (tk:Option Rat) (m:Rat):Bool:=match tk with | none => false | some u => !decide (m < u)
noncomputable def stn (oa ob tk:Option Rat) (T m:Rat):Option (Rat×Rat) :=
  if lateB tk m = true then none else if shr oa T m < 1 - shr ob T m then some (shr oa T m,1 - shr ob T m) else none
inductive RunEnd where
  | stands | swept (p:Str) (t:Rat) | met (t s:Rat) | taken (t:Rat)
noncomputable def swp (o:Option Rat) (T:Rat) (p:Option Rat):Bool:=match o with | none => false | some f => match p with | none => true | some g => !decide (g < f + T)
noncomputable def endF (a b:Str) (oa ob:Option Rat) (T:Rat):RunEnd :=
  if oa = none /\ ob = none then .stands else if swp oa T ob = true then .swept a (oa.getD 0 + T) else if swp ob T oa = true then .swept b (ob.getD 0 + T) else .met ((oa.getD 0 + ob.getD 0 + T) * (1 / 2)) (((oa.getD 0 + ob.getD 0 + T) * (1 / 2) - oa.getD 0) / T)
noncomputable def endAt:RunEnd -> Option Rat
  | .stands => none
  | .swept _ t => some t
  | .met t _ => some t
  | .taken t => some t
noncomputable def goneB (u:Rat) (o:Option Rat):Bool:=match o with | none => true | some t => decide (u < t)
noncomputable def endT (e:RunEnd) (tk:Option Rat):RunEnd:=match tk with | none => e | some u => if goneB u (endAt e) = true then .taken u else e
noncomputable def EndQ (H:Hp) (v:V):RunEnd -> Prop
  | .stands => ∃ p,v = .ref p /\ H p = some (.tup [.str "stands"])
  | .swept s t => ∃ p u,v = .ref p /\ H p = some (.tup [.str "swept",.str s,u]) /\ FrQ H u t
  | .met t s => ∃ p u w,v = .ref p /\ H p = some (.tup [.str "met",u,w]) /\ FrQ H u t /\ FrQ H w s
  | .taken t => ∃ p u,v = .ref p /\ H p = some (.tup [.str "taken",u]) /\ FrQ H u t
theorem EndQ.tk {H H':Hp} {v:V} {e:RunEnd} (h:EndQ H v e) (t:TK H H'):EndQ H' v e:=by
  cases e with
  | stands => obtain ⟨p,e,h⟩:=h; exact ⟨p,e,t _ _ h⟩
  | swept s q => obtain ⟨p,u,e,h,f⟩:=h; exact ⟨p,u,e,t _ _ h,f.tk t⟩
  | met q s => obtain ⟨p,u,w,e,h,f,g⟩:=h; exact ⟨p,u,w,e,t _ _ h,f.tk t,g.tk t⟩
  | taken q => obtain ⟨p,u,e,h,f⟩:=h; exact ⟨p,u,e,t _ _ h,f.tk t⟩
noncomputable def dEnd:RunEnd -> List Dt
  | .stands => [.str "stands"]
  | .swept s t => [.str "swept",.str s,dFr t]
  | .met t s => [.str "met",dFr t,dFr s]
  | .taken t => [.str "taken",dFr t]
theorem EndQ.den {H:Hp} {v:V} {e:RunEnd} (h:EndQ H v e):Den H (.tup (dEnd e)) v:=by
  cases e with
  | stands => obtain ⟨p,e,h⟩:=h; exact ⟨p,_,e,h,_,_,rfl,rfl,rfl⟩
  | swept s q => obtain ⟨p,u,e,h,f⟩:=h; exact ⟨p,_,e,h,_,_,rfl,rfl,_,_,rfl,rfl,_,_,rfl,den_fr f,rfl⟩
  | met q s => obtain ⟨p,u,w,e,h,f,g⟩:=h; exact ⟨p,_,e,h,_,_,rfl,rfl,_,_,rfl,den_fr f,_,_,rfl,den_fr g,rfl⟩
  | taken q => obtain ⟨p,u,e,h,f⟩:=h; exact ⟨p,_,e,h,_,_,rfl,rfl,_,_,rfl,den_fr f,rfl⟩
theorem dep_end (e:RunEnd):depL (dEnd e) <= 50:=by cases e <;> simp [dEnd,depL,dep,dFr]
noncomputable def LeftQ (H:Hp) (v:V):Option (Rat×Rat) -> Prop
  | none => v = .non
  | some x => ∃ p u w,v = .ref p /\ H p = some (.tup [u,w]) /\ FrQ H u x.1 /\ FrQ H w x.2
theorem LeftQ.tk {H H':Hp} {v:V} {o:Option (Rat×Rat)} (h:LeftQ H v o) (t:TK H H'):LeftQ H' v o:=by
  cases o with
  | none => exact h
  | some x => obtain ⟨p,u,w,e,h,f,g⟩:=h; exact ⟨p,u,w,e,t _ _ h,f.tk t,g.tk t⟩
theorem left_den {H:Hp} {p:Addr} {u w:V} {q r:Rat} (h:H p = some (.tup [u,w])) (f:FrQ H u q) (g:FrQ H w r):Den H (.tup [dFr q,dFr r]) (.ref p):=⟨p,_,rfl,h,_,_,rfl,den_fr f,_,_,rfl,den_fr g,rfl⟩
section
variable {H:Hp} {Q:VK}
theorem deq_fr (q:Rat):deq (dFr q) (dFr q) = true:=by
  show (q.num == q.num && ((q.den:Int) == (q.den:Int) && true)) = true
  rw [beq_self_eq_true,beq_self_eq_true]
  rfl
theorem deq_end (e:RunEnd):deqL (dEnd e) (dEnd e) = true:=by
  have b:∀ s:Str,(s == s) = true:=fun s => beq_self_eq_true s
  cases e with
  | stands => show (("stands":Str) == "stands" && true) = true; rw [b]; rfl
  | swept s t => show (("swept":Str) == "swept" && (s == s && (deq (dFr t) (dFr t) && true))) = true; rw [b,b,deq_fr]; rfl
  | met t s => show (("met":Str) == "met" && (deq (dFr t) (dFr t) && (deq (dFr s) (dFr s) && true))) = true; rw [b,deq_fr,deq_fr]; rfl
  | taken t => show (("taken":Str) == "taken" && (deq (dFr t) (dFr t) && true)) = true; rw [b,deq_fr]; rfl
theorem n_left {u v:V} {o:Option (Rat×Rat)} (h1:LeftQ H u o) (h2:LeftQ H v o) (k:Q (.bl false) H):rNeB u v H Q:=by
  cases o with
  | none =>
    cases (show u = .non from h1)
    cases (show v = .non from h2)
    exact n_opt (a:=none) (b:=none) rfl rfl (by rw [decide_eq_true rfl]; exact k)
  | some x =>
    obtain ⟨p,a,b,rfl,h,f,g⟩:=h1
    obtain ⟨p',a',b',rfl,h',f',g'⟩:=h2
    have e:deqL [dFr x.1,dFr x.2] [dFr x.1,dFr x.2] = true:=by
      show (deq (dFr x.1) (dFr x.1) && (deq (dFr x.2) (dFr x.2) && true)) = true
      rw [deq_fr,deq_fr]
      rfl
    exact .inl (n_tup (left_den h f g) (left_den h' f' g') (by simp [depL,dep,dFr]) (by rw [e]; exact k))
theorem n_end {u v:V} {e:RunEnd} (h1:EndQ H u e) (h2:EndQ H v e) (k:Q (.bl false) H):rNeA u v H Q:=by
  have ee:deqL (dEnd e) (dEnd e) = true:=deq_end e
  exact n_tup h1.den h2.den (dep_end e) (by rw [ee]; exact k)
theorem r_pow30' (k:Q (.int 1000000000000000000000000000000) H):rI CPow (fun i j => .int (i ^ j.toNat)) (.int 10) (.int 30) H Q:=r_I ⟨by decide,by decide,by decide⟩ k
theorem r_pow31 (k:Q (.int 10000000000000000000000000000000) H):rI CPow (fun i j => .int (i ^ j.toNat)) (.int 10) (.int 31) H Q:=r_I ⟨by decide,by decide,by decide⟩ k
theorem r_pow57 (k:Q (.int 1000000000000000000000000000000000000000000000000000000000) H):rI CPow (fun i j => .int (i ^ j.toNat)) (.int 10) (.int 57) H Q:=r_I ⟨by decide,by decide,by decide⟩ k
end
theorem len3 {us:St} (h:us.length = 3):∃ o p q,us = [o,p,q]:=by
  cases us with
  | nil => cases h
  | cons o us => cases us with
    | nil => cases h
    | cons p us => cases us with
      | nil => cases h
      | cons q us => cases us with
        | nil => exact ⟨o,p,q,rfl⟩
        | cons r us => cases h
theorem r_comp3 {te:TE} {Q:VK} {H:Hp} {caps:St} {K:PySem.W.Frag} {a:Addr} {xs:List V} (hn:xs.length <= 1000) (Pv:Addr -> Nat -> List V -> Hp -> Prop) (h0:∀ acc,H acc = none -> Pv acc 0 [] (upd H acc (.lst []))) (hl':∀ acc i ys H1,H acc = none -> i <= xs.length -> Pv acc i ys H1 -> SqL K H1 a xs)
    (hs:∀ acc i ys H1 x,H acc = none -> xs[i]? = some x -> ys.length = i -> H1 acc = some (.lst ys) -> Pv acc i ys H1 -> ∃ p u v z,x = .ref p /\ H1 p = some (.tup [u,v,z]) /\ te (some u :: some v :: some z :: caps) H1 (cNext xs.length acc (Pv acc) ys i))
    (hd:∀ acc ys H1,H acc = none -> H1 acc = some (.lst ys) -> ys.length = xs.length -> Pv acc xs.length ys H1 -> Q (.ref acc) H1):compK te none (gTup K 3 (gCons (gName 0) (gCons (gName 1) (gCons (gName 2) gNil)))) (List.replicate 3 none) caps Q (Itl K a) H:=by
  intro acc hacc
  refine ⟨cW xs.length acc (Pv acc),⟨xs.length,by simp,Nat.zero_le _,rfl,upd_same,h0 acc hacc⟩,fun i m ys H1 hW => ?_⟩
  obtain ⟨rfl,hi,hl,ha,p⟩:=hW
  have q:=hl' acc i ys H1 hacc hi p
  refine ⟨ha,?_⟩
  rcases Nat.lt_or_ge i xs.length with hlt | hge
  . refine .inr ⟨small1000 (by omega),⟨xs,xs[i],q,by simp [hlt]⟩,fun us x H' hu z => ?_⟩
    obtain ⟨rfl,z⟩:=z
    obtain ⟨o1,o2,o3,rfl⟩:=len3 hu
    obtain ⟨b,u,v,y,rfl,hb,k⟩:=hs acc i ys H' x hacc (z xs q) hl ha p
    exact r_gtup3 hb ⟨u,[v,y],rfl,v,[y],rfl,y,[],rfl,rfl,⟨[some u,some v,some y],rfl,rfl⟩,k⟩
  . cases (Nat.le_antisymm hi hge:i = xs.length)
    exact .inl ⟨⟨xs,q,Nat.le_refl _⟩,hd acc ys H1 hacc ha hl p⟩
end L2
namespace L2
open PySem PySem.Spec PyProof.Rows
noncomputable def UQ (u:Int) (q:Rat):Prop:=Bd u.toNat (10 ^ 31) q /\ 0 <= q
theorem uq_of {u z:Int} (hu:0 < u) (h0:0 <= z) (h1:z <= 10 ^ 31):UQ u (Rat.divInt z u):=by
  have hu0:u ≠ 0:=by omega
  have e:=low_rat (t:=z) hu0
  have hb:=lowB_mul (t:=z) hu0
  have hq0:0 <= Rat.divInt z u:=by
    rw [← Rat.num_nonneg,e.1]
    have e':=low_worth (t:=z) hu0
    have hp:=lowB_pos (t:=z) hu0
    have:0 <= lowT z u * u:=by rw [e']; exact Int.mul_nonneg h0 (by omega)
    exact Int.nonneg_of_mul_nonneg_left this hu
  have hM:(Rat.divInt z u).num.natAbs <= 10 ^ 31:=by
    rw [e.1]
    have:=lowT_le (t:=z) hu0
    omega
  refine ⟨(Bd.of hM).dvd ?_,hq0⟩
  have h2:((Rat.divInt z u).den:Int) ∣ u:=by rw [e.2]; exact ⟨_,hb.symm⟩
  have h3:(u.toNat:Int) = u:=Int.toNat_of_nonneg (by omega)
  exact Int.natCast_dvd_natCast.mp (h3.symm ▸ h2:((Rat.divInt z u).den:Int) ∣ (u.toNat:Int))
theorem UQ.sz {u:Int} {q:Rat} (h:UQ u q) (h0:0 < u) (h1:u <= 10 ^ 12):Sz 400 q:=h.1.sz (by omega) (Nat.lt_of_le_of_lt (show u.toNat <= 10 ^ 12 by omega) (by decide)) (Nat.lt_of_le_of_lt (Nat.mul_le_mul_left _ (show u.toNat <= 10 ^ 12 by omega)) (by decide))
theorem room_u {u:Int} (h0:0 < u) (h1:u <= 10 ^ 12):Room8 u.toNat (10 ^ 31):=⟨by omega,Nat.lt_of_le_of_lt (show u.toNat <= 10 ^ 12 by omega) (by decide),Nat.lt_of_le_of_lt (Nat.mul_le_mul_left _ (show u.toNat <= 10 ^ 12 by omega)) (by decide)⟩
theorem sz_u {u:Int} (h0:0 < u) (h1:u <= 10 ^ 12) (t:Rat) (h:Bd u.toNat (10 ^ 31 * 1000) t):Sz 400 t:=h.sz (by omega) (Nat.lt_of_le_of_lt (show u.toNat <= 10 ^ 12 by omega) (by decide)) (Nat.lt_of_le_of_lt (Nat.mul_le_mul_left _ (show u.toNat <= 10 ^ 12 by omega)) (by decide))
noncomputable def TriQ (H:Hp) (v:V) (r:Int×Int×Int):Prop:=∃ p,v = .ref p /\ H p = some (.tup [.int r.1,.int r.2.1,.int r.2.2])
theorem TriQ.tk {H H':Hp} {v:V} {r:Int×Int×Int} (h:TriQ H v r) (t:TK H H'):TriQ H' v r:=let ⟨p,e,h⟩:=h; ⟨p,e,t _ _ h⟩
noncomputable def PaiQ (H:Hp) (v:V) (r:Int×Int):Prop:=∃ p,v = .ref p /\ H p = some (.tup [.int r.1,.int r.2])
theorem PaiQ.tk {H H':Hp} {v:V} {r:Int×Int} (h:PaiQ H v r) (t:TK H H'):PaiQ H' v r:=let ⟨p,e,h⟩:=h; ⟨p,e,t _ _ h⟩
noncomputable def hereK (ln:Addr) (u:Int) (lr lp lt:Addr):List (Key×V):=[(Sum.inr "names",.ref ln),(Sum.inr "unit",.int u),(Sum.inr "runs",.ref lr),(Sum.inr "pushes",.ref lp),(Sum.inr "takings",.ref lt)]
section
variable {ln lr lp lt:Addr} {u:Int}
theorem here_names:valV (hereK ln u lr lp lt) (Sum.inr "names") = some (.ref ln):=by with_unfolding_all rfl
theorem here_unit:valV (hereK ln u lr lp lt) (Sum.inr "unit") = some (.int u):=by with_unfolding_all rfl
theorem here_runs:valV (hereK ln u lr lp lt) (Sum.inr "runs") = some (.ref lr):=by with_unfolding_all rfl
theorem here_pushes:valV (hereK ln u lr lp lt) (Sum.inr "pushes") = some (.ref lp):=by with_unfolding_all rfl
theorem here_takings:valV (hereK ln u lr lp lt) (Sum.inr "takings") = some (.ref lt):=by with_unfolding_all rfl
end
structure HereI (U:List Str) (u:Int) (rs:List (Int×Int×Int)) (ps ts:List (Int×Int)) (m:Nat):Prop where
  u0:0 < u
  u1:u <= 10 ^ 12
  n2:2 <= U.length
  n8:U.length <= 8
  rok:∀ r ∈ rs,0 <= r.1 /\ r.1 < U.length /\ 0 <= r.2.1 /\ r.2.1 < U.length /\ 1 <= r.2.2 /\ r.2.2 <= 10 ^ 30
  pok:∀ r ∈ ps,0 <= r.1 /\ r.1 < U.length /\ 0 <= r.2 /\ r.2 <= 10 ^ 30
  tok:∀ r ∈ ts,0 <= r.1 /\ 0 <= r.2 /\ r.2 <= 10 ^ 30
  len:rs.length + ps.length + ts.length <= m
structure HereQ (H:Hp) (dd:Addr) (U:List Str) (u:Int) (rs:List (Int×Int×Int)) (ps ts:List (Int×Int)) (ln lr lp lt:Addr):Prop where
  d:H dd = some (.dK (hereK ln u lr lp lt))
  nm:H ln = some (.lst (U.map V.str))
  rq:LQ TriQ H lr rs
  pq:LQ PaiQ H lp ps
  tq:LQ PaiQ H lt ts
theorem HereQ.sm {H H':Hp} {dd:Addr} {U:List Str} {u:Int} {rs:List (Int×Int×Int)} {ps ts:List (Int×Int)} {ln lr lp lt:Addr} (h:HereQ H dd U u rs ps ts ln lr lp lt) (s:Same H H'):HereQ H' dd U u rs ps ts ln lr lp lt:=⟨s _ _ h.d,s _ _ h.nm,h.rq.sm TriQ.tk s,h.pq.sm PaiQ.tk s,h.tq.sm PaiQ.tk s⟩
theorem den_tris {H:Hp}:∀ {zs:List V} {rs:List (Int×Int×Int)},Paired (TriQ H) zs rs -> DenL H (rs.map fun r => .tup [.int r.1,.int r.2.1,.int r.2.2]) zs
  | _,_,.nil => rfl
  | _,_,.cons ⟨p,e,h⟩ t => ⟨_,_,rfl,⟨p,_,e,h,_,_,rfl,rfl,_,_,rfl,rfl,_,_,rfl,rfl,rfl⟩,den_tris t⟩
theorem dep_tris:∀ rs:List (Int×Int×Int),depL (rs.map fun r => Dt.tup [.int r.1,.int r.2.1,.int r.2.2]) <= 10
  | [] => by decide
  | u :: r => by
    have:=dep_tris r
    show max (dep (Dt.tup [.int u.1,.int u.2.1,.int u.2.2])) (depL (r.map fun r => Dt.tup [.int r.1,.int r.2.1,.int r.2.2])) <= 10
    have e:dep (Dt.tup [.int u.1,.int u.2.1,.int u.2.2]) <= 10:=by simp [dep,depL]
    omega
theorem e_triE {H:Hp} {Q:VK} {l p:Addr} {zs:List V} {rs:List (Int×Int×Int)} (h1:H l = some (.lst zs)) (pz:Paired (TriQ H) zs rs) (h2:H p = some (.lst [])) (k:Q (.bl (decide (rs = []))) H):rEqA (.ref l) (.ref p) H Q:=by
  refine e_lst (es:=[]) ⟨l,_,rfl,h1,den_tris pz⟩ ⟨p,_,rfl,h2,rfl⟩ (Nat.le_trans (dep_tris rs) (by decide)) ?_
  cases rs with
  | nil => rw [decide_eq_true rfl] at k; exact k
  | cons r rs => rw [decide_eq_false (List.cons_ne_nil _ _)] at k; exact k
noncomputable def dsp5 (p:Addr) (Q:VK) (x1 y1 x2 y2 x3 y3 x4 y4 x5 y5:V) (H4:Hp):Prop:=H4 p = some (.dK []) /\ ∃ kvs:List (Key×V),[(x1,y1),(x2,y2),(x3,y3),(x4,y4),(x5,y5)] = kvs.map (fun kv => (kV kv.1,kv.2)) /\ kvs.length <= 15 /\ Q (.ref p) (upd H4 p (.dK (mergeK [] kvs)))
theorem r_disp5 {σ:St} {H:Hp} {Q:VK} {k1 v1 k2 v2 k3 v3 k4 v4 k5 v5:TE} (k:∀ p,H p = none -> k1 σ (upd H p (.dK [])) fun x1 H1 => v1 σ H1 fun y1 H2 => k2 σ H2 fun x2 H3 => v2 σ H3 fun y2 H4 => k3 σ H4 fun x3 H5 => v3 σ H5 fun y3 H6 => k4 σ H6 fun x4 H7 => v4 σ H7 fun y4 H8 => k5 σ H8 fun x5 H9 => v5 σ H9 fun y5 H10 => dsp5 p Q x1 y1 x2 y2 x3 y3 x4 y4 x5 y5 H10):tDisp [(k1,v1),(k2,v2),(k3,v3),(k4,v4),(k5,v5)] σ H Q:=k
theorem dsp5_here {p ln lr lp lt:Addr} {u:Int} {H:Hp} {Q:VK} (h:H p = some (.dK [])) (k:Q (.ref p) (upd H p (.dK (hereK ln u lr lp lt)))):dsp5 p Q (.str "names") (.ref ln) (.str "unit") (.int u) (.str "runs") (.ref lr) (.str "pushes") (.ref lp) (.str "takings") (.ref lt) H :=
  ⟨h,hereK ln u lr lp lt,rfl,Nat.le_of_ble_eq_true rfl,by
    rw [mergeK_nd (by rw [List.nil_append]; show (([Sum.inr "names",Sum.inr "unit",Sum.inr "runs",Sum.inr "pushes",Sum.inr "takings"]:List Key)).Nodup; decide +kernel),List.nil_append]
    exact k⟩
end L2
namespace L2
open PySem PySem.Spec PyProof.Rows
theorem ints_vals:∀ {xs:List Int} {us:List Value},Vals (xs.map V.int) us -> IntsAre us xs
  | [],_,.nil => .nil
  | x :: xs,_,.cons ⟨t,e⟩ r => by
    subst e
    exact .cons x t (ints_vals r)
noncomputable def rSortL:List V -> Hp -> VK -> Prop:=fun vs H Q => ∃ (p:Addr) (xs:List Int),vs = [.ref p] /\ H p = some (.lst (xs.map V.int)) /\ xs.length < 64 /\ ∀ (l:Addr) (ys:List Int),H l = none -> ys.Perm xs -> ys.Pairwise (· <= ·) -> Q (.ref l) (upd H l (.lst (ys.map V.int)))
theorem call_sortL {X:Cx}:CallR X (.builtin "sorted") rSortL:=by
  intro pins s σ H vs us Q I r h
  obtain ⟨p,xs,rfl,hp,hl,q⟩:=h
  obtain ⟨u,rfl,ru⟩:=r.one
  cases ru
  obtain ⟨z,its,n,rv,hlen,e⟩:=I.lstM hp
  rw [List.length_map] at hlen
  refine sorted_ints (vs:=its) ⟨_,e,rfl,n,rfl⟩ (ints_vals rv) (by omega) fun out ys a1 a2 a3 => ?_
  have hsz:((s.heap.push (seqObj "list" #[] 0)).update s.heap.objs.size (Obj.mapSeq (· ++ its.toArray))).objs.size = s.heap.objs.size + 1:=by
    rw [Heap.size_update,size_push']
  have g0:(((s.heap.push (seqObj "list" #[] 0)).update s.heap.objs.size (Obj.mapSeq (· ++ its.toArray))).push (seqObj "list" its.toArray 0)).get? (s.heap.objs.size + 1) = some (seqObj "list" its.toArray 0):=by
    rw [← hsz]; exact Heap.get?_push_size _ rfl
  obtain ⟨e',he⟩:=sortedHeap_at (vs:=its) (out:=out) g0
  have I1:=I.laid (h':=sortedAll s.heap its out) (a:=s.heap.objs.size + 1) (o:=.lst (ys.map V.int)) (t':=s.toks) (fun b o eb => by
    have hb:=Heap.lt_size eb
    unfold sortedAll
    rw [sortedHeap_old (Nat.ne_of_lt (Nat.lt_succ_of_lt hb)) (by rw [size_push',hsz]; exact Nat.lt_succ_of_lt (Nat.lt_succ_of_lt hb))]
    refine Heap.get?_push_of_some _ ?_
    exact (Heap.get?_update_other _ _ (Ne.symm (Nat.ne_of_lt hb))).trans (Heap.get?_push_of_some _ eb)) (Nat.le_succ _) ⟨by
    have:=a2.length_eq
    rw [List.length_map,sizeLine_eq]
    omega,out.toList,e',vals_ints a1,by rw [Array.toArray_toList]; exact he⟩
  exact ⟨.ref (s.heap.objs.size + 1),_,I1,rfl,q _ ys (I.hok.fresh (Nat.le_succ _)) a2 a3⟩
theorem r_sortL {H:Hp} {Q:VK} {p:Addr} {xs:List Int} (hp:H p = some (.lst (xs.map V.int))) (hl:xs.length < 64) (k:∀ (l:Addr) (ys:List Int) (G:Hp),H l = none -> Same H G -> G l = some (.lst (ys.map V.int)) -> ys.Perm xs -> ys.Pairwise (· <= ·) -> Q (.ref l) G):rSortL [.ref p] H Q :=
  ⟨p,xs,rfl,hp,hl,fun l ys h1 h2 h3 => k l ys _ h1 (Same.new h1) upd_same h2 h3⟩
end L2
namespace L2
open PySem PySem.Spec PyProof.Rows
noncomputable def pas (o:Option Rat) (m:Rat):Rat:=match o with | none => 0 | some f => if m < f then 0 else m - f
theorem shr_pas (o:Option Rat) (T m:Rat):shr o T m = pas o m / T:=by
  cases o with
  | none => show (0:Rat) = 0 / T; rw [Rat.div_def,Rat.zero_mul]
  | some f =>
    show (if m < f then 0 else (m - f) / T) = (if m < f then 0 else m - f) / T
    split
    . rw [Rat.div_def,Rat.zero_mul]
    . rfl
theorem shr_mul {o:Option Rat} {T m:Rat} (hT:0 < T):shr o T m * T = pas o m:=by
  rw [shr_pas]
  exact Rat.div_mul_cancel (Rat.ne_of_gt hT)
theorem lt_mulT {x y T:Rat} (hT:0 < T):x < y ↔ x * T < y * T:=by
  constructor
  . intro h
    have:0 < (y - x) * T:=Rat.mul_pos (by grind) hT
    grind
  . intro h
    refine Classical.byContradiction fun c => ?_
    have:0 <= (x - y) * T:=Rat.mul_nonneg (by grind) (Rat.le_of_lt hT)
    grind
theorem stand_iff {oa ob:Option Rat} {T m:Rat} (hT:0 < T):shr oa T m < 1 - shr ob T m ↔ pas oa m + pas ob m < T:=by
  rw [lt_mulT hT,show (1 - shr ob T m) * T = T - shr ob T m * T by grind,shr_mul hT,shr_mul hT]
  constructor <;> intro h <;> grind
theorem pas_nn (o:Option Rat) (m:Rat):0 <= pas o m:=by
  cases o with
  | none => exact Rat.le_refl
  | some f =>
    show 0 <= (if m < f then 0 else m - f)
    split <;> grind
theorem pas_up {o:Option Rat} {m m':Rat} (h:m <= m'):pas o m <= pas o m':=by
  cases o with
  | none => exact Rat.le_refl
  | some f =>
    show (if m < f then 0 else m - f) <= (if m' < f then 0 else m' - f)
    split <;> split <;> grind
theorem le_mulT {x y T:Rat} (hT:0 < T):x <= y ↔ x * T <= y * T:=by
  rw [← Rat.not_lt,← Rat.not_lt,lt_mulT hT]
theorem shr_up {o:Option Rat} {T m m':Rat} (hT:0 < T) (h:m <= m'):shr o T m <= shr o T m':=by
  rw [le_mulT hT,shr_mul hT,shr_mul hT]
  exact pas_up h
theorem shr_nn {o:Option Rat} {T m:Rat} (hT:0 < T):0 <= shr o T m:=by
  rw [le_mulT hT,shr_mul hT,Rat.zero_mul]
  exact pas_nn o m
theorem endA {a b:Str} {oa ob:Option Rat} {T m:Rat} (hT:0 < T):(∃ t,endAt (endF a b oa ob T) = some t /\ t <= m) ↔ ¬ pas oa m + pas ob m < T:=by
  have key:∀ {o:Option Rat} {t:Rat},o = some t -> ((∃ t',o = some t' /\ t' <= m) ↔ t <= m):=fun {o t} e => ⟨fun ⟨t',e',h⟩ => by rw [e] at e'; cases e'; exact h,fun h => ⟨t,e,h⟩⟩
  cases oa with
  | none =>
    cases ob with
    | none =>
      constructor
      . rintro ⟨t,e,_⟩
        cases e
      . intro h
        exact absurd (show (0:Rat) + 0 < T by grind) h
    | some g =>
      rw [key (o:=endAt (endF a b none (some g) T)) (t:=g + T) rfl]
      show g + T <= m ↔ ¬ (0 + (if m < g then 0 else m - g) < T)
      split <;> constructor <;> intro h <;> grind
  | some f =>
    cases ob with
    | none =>
      rw [key (o:=endAt (endF a b (some f) none T)) (t:=f + T) rfl]
      show f + T <= m ↔ ¬ ((if m < f then 0 else m - f) + 0 < T)
      split <;> constructor <;> intro h <;> grind
    | some g =>
      show _ ↔ ¬ ((if m < f then 0 else m - f) + (if m < g then 0 else m - g) < T)
      by_cases h1:g < f + T
      . by_cases h2:f < g + T
        . rw [key (t:=(f + g + T) * (1 / 2)) (by simp [endF,swp,h1,h2,endAt])]
          split <;> split <;> constructor <;> intro h <;> grind
        . rw [key (t:=g + T) (by simp [endF,swp,h1,h2,endAt])]
          split <;> split <;> constructor <;> intro h <;> grind
      . rw [key (t:=f + T) (by simp [endF,swp,h1,endAt])]
        split <;> split <;> constructor <;> intro h <;> grind
theorem stn_none {oa ob tk:Option Rat} {T m:Rat} (hT:0 < T):stn oa ob tk T m = none ↔ lateB tk m = true ∨ ¬ pas oa m + pas ob m < T:=by
  unfold stn
  rw [← stand_iff hT]
  cases lateB tk m with
  | true => exact ⟨fun _ => .inl rfl,fun _ => rfl⟩
  | false =>
    rw [if_neg Bool.false_ne_true]
    split
    . rename_i h
      exact ⟨fun z => (by cases z),fun z => z.elim (fun z => (by cases z)) fun z => absurd h z⟩
    . rename_i h
      exact ⟨fun _ => .inr h,fun _ => rfl⟩
theorem over_iff {a b:Str} {oa ob tk:Option Rat} {T m:Rat} (hT:0 < T):stn oa ob tk T m = none ↔ ∃ t,endAt (endT (endF a b oa ob T) tk) = some t /\ t <= m:=by
  rw [stn_none hT,← endA (a:=a) (b:=b) hT]
  generalize endF a b oa ob T = e
  cases tk with
  | none =>
    exact ⟨fun z => z.elim (fun z => by cases z) id,.inr⟩
  | some u =>
    have hl:lateB (some u) m = true ↔ u <= m:=by
      show (!decide (m < u)) = true ↔ u <= m
      rw [Bool.not_eq_true',decide_eq_false_iff_not,Rat.not_lt]
    rw [hl]
    have et:endT e (some u) = if goneB u (endAt e) = true then .taken u else e:=rfl
    rw [et]
    cases ea:endAt e with
    | none =>
      rw [show goneB u none = true from rfl,if_pos rfl]
      exact ⟨fun z => z.elim (fun h => ⟨u,rfl,h⟩) fun ⟨t,e,_⟩ => by (cases e),fun ⟨t,e,h⟩ => .inl (by cases e; exact h)⟩
    | some t0 =>
      by_cases c:u < t0
      . rw [show goneB u (some t0) = true from decide_eq_true c,if_pos rfl]
        refine ⟨fun z => ⟨u,rfl,z.elim id fun ⟨t,e,h⟩ => by cases e; grind⟩,fun ⟨t,e,h⟩ => .inl (by cases e; exact h)⟩
      . rw [show goneB u (some t0) = false from decide_eq_false c,if_neg Bool.false_ne_true,ea]
        refine ⟨fun z => z.elim (fun h => ⟨t0,rfl,by grind⟩) id,.inr⟩
theorem stn_some {oa ob tk:Option Rat} {T m:Rat} {x:Rat×Rat} (h:stn oa ob tk T m = some x):x = (shr oa T m,1 - shr ob T m) /\ x.1 < x.2:=by
  unfold stn at h
  split at h
  . cases h
  . split at h
    . cases h
      rename_i c
      exact ⟨rfl,c⟩
    . cases h
theorem late_up {tk:Option Rat} {m m':Rat} (h:m <= m') (hl:lateB tk m = true):lateB tk m' = true:=by
  cases tk with
  | none => cases hl
  | some u =>
    have e:∀ z,lateB (some u) z = true ↔ u <= z:=fun z => by
      show (!decide (z < u)) = true ↔ u <= z
      rw [Bool.not_eq_true',decide_eq_false_iff_not,Rat.not_lt]
    rw [e] at hl ⊢
    exact Rat.le_trans hl h
theorem stn_up {oa ob tk:Option Rat} {T m m':Rat} (hT:0 < T) (h:m <= m') {x:Rat×Rat} (hx:stn oa ob tk T m' = some x):∃ y,stn oa ob tk T m = some y /\ y.1 <= x.1 /\ x.2 <= y.2:=by
  have h1:=shr_up (o:=oa) hT h
  have h2:=shr_up (o:=ob) hT h
  cases e:stn oa ob tk T m with
  | none =>
    exfalso
    have:stn oa ob tk T m' = none:=by
      rw [stn_none hT] at e ⊢
      refine e.imp (late_up h) fun z => ?_
      have:=pas_up (o:=oa) h
      have:=pas_up (o:=ob) h
      grind
    rw [hx] at this
    cases this
  | some y =>
    obtain ⟨rfl,_⟩:=stn_some e
    obtain ⟨rfl,_⟩:=stn_some hx
    exact ⟨_,rfl,h1,by show 1 - _ <= 1 - _; grind⟩
theorem stn_in {oa ob tk:Option Rat} {T m:Rat} (hT:0 < T) {x:Rat×Rat} (hx:stn oa ob tk T m = some x):0 <= x.1 /\ x.2 <= 1:=by
  obtain ⟨rfl,_⟩:=stn_some hx
  have h1:=shr_nn (o:=oa) (m:=m) hT
  have h2:=shr_nn (o:=ob) (m:=m) hT
  exact ⟨h1,by show 1 - _ <= _; grind⟩
theorem endT_met {e:RunEnd} {tk:Option Rat} {t s:Rat} (h:endT e tk = .met t s):e = .met t s:=by
  cases tk with
  | none => exact h
  | some u =>
    replace h:(if goneB u (endAt e) = true then .taken u else e) = RunEnd.met t s:=h
    split at h
    . cases h
    . exact h
theorem met_in {a b:Str} {oa ob tk:Option Rat} {T m t s:Rat} (hT:0 < T) (h:endT (endF a b oa ob T) tk = .met t s) (hm:m < t):shr oa T m < s /\ s < 1 - shr ob T m:=by
  replace h:=endT_met h
  have hT0:=Rat.ne_of_gt hT
  obtain ⟨f,g,rfl,rfl,h1,h2,rfl,rfl⟩:∃ f g,oa = some f /\ ob = some g /\ g < f + T /\ f < g + T /\ t = (f + g + T) * (1 / 2) /\ s = ((f + g + T) * (1 / 2) - f) / T:=by
    cases oa with
    | none =>
      cases ob with
      | none => cases h
      | some g => cases h
    | some f =>
      cases ob with
      | none => cases h
      | some g =>
        by_cases h1:g < f + T
        . by_cases h2:f < g + T
          . simp [endF,swp,h1,h2] at h
            refine ⟨f,g,rfl,rfl,h1,h2,?_,?_⟩
            . rw [← h.1]
            . rw [← h.2]
          . simp [endF,swp,h1,h2] at h
        . simp [endF,swp,h1] at h
  rw [lt_mulT hT,lt_mulT hT (y:=1 - _),shr_mul hT,show (1 - shr (some g) T m) * T = T - shr (some g) T m * T by grind,shr_mul hT,Rat.div_mul_cancel hT0]
  show (if m < f then 0 else m - f) < _ /\ _ < T - (if m < g then 0 else m - g)
  constructor <;> split <;> grind
theorem swept_ok {n:List TRun} {push:Key -> Option Rat} {tkf:Nat -> Option Rat} {mom:Key -> Option Rat} (fl:Falls (kn n) push tkf mom) {k:Nat} {r:TRun} (hr:n[k]? = some r) (hT:0 < r.2.2) {p:Str} {t:Rat}
    (h:endT (endF r.1 r.2.1 (mom (Sum.inr r.1)) (mom (Sum.inr r.2.1)) r.2.2) (tkf k) = .swept p t):∃ f q,mom (Sum.inr p) = some f /\ t = f + r.2.2 /\ mom (Sum.inr q) = some t /\ ((p = r.1 /\ q = r.2.1 /\ r.1 ≠ r.2.1) ∨ (p = r.2.1 /\ q = r.1)):=by
  have hk:(kn n)[k]? = some (Sum.inr r.1,Sum.inr r.2.1,r.2.2):=by
    unfold kn
    rw [List.getElem?_map,hr]
    rfl
  obtain ⟨he,hno⟩:endF r.1 r.2.1 (mom (Sum.inr r.1)) (mom (Sum.inr r.2.1)) r.2.2 = .swept p t /\ NotOut tkf k t:=by
    unfold NotOut
    cases e:tkf k with
    | none =>
      rw [e] at h
      exact ⟨h,fun u z => by cases z⟩
    | some u =>
      rw [e] at h
      replace h:(if goneB u (endAt (endF r.1 r.2.1 (mom (Sum.inr r.1)) (mom (Sum.inr r.2.1)) r.2.2)) = true then .taken u else endF r.1 r.2.1 (mom (Sum.inr r.1)) (mom (Sum.inr r.2.1)) r.2.2) = RunEnd.swept p t:=h
      split at h
      . cases h
      . rename_i c
        refine ⟨h,fun w z => ?_⟩
        cases z
        rw [h] at c
        exact Rat.not_lt.mp fun z => c (decide_eq_true z)
  have one:∀ (x y:Str) (f:Rat),mom (Sum.inr x) = some f -> Jn ((Sum.inr r.1,Sum.inr r.2.1,r.2.2):RunD Key) (Sum.inr x) (Sum.inr y) -> NotOut tkf k (f + r.2.2) -> swp (some f) r.2.2 (mom (Sum.inr y)) = true -> mom (Sum.inr y) = some (f + r.2.2):=fun x y f e j no hs => by
    obtain ⟨g,eg,hg⟩:=fl.le _ _ (.run (fl.arr _ _ e) hk j no)
    rw [eg] at hs ⊢
    have:¬ g < f + r.2.2:=by simpa [swp] using hs
    rw [show g = f + r.2.2 by grind]
  unfold endF at he
  split at he
  . cases he
  . split at he
    . rename_i _ hs
      cases he
      cases e:mom (Sum.inr r.1) with
      | none => rw [e] at hs; cases hs
      | some f =>
        rw [e] at hs hno
        have:=one r.1 r.2.1 f e (.inl ⟨rfl,rfl⟩) hno hs
        refine ⟨f,r.2.1,rfl,rfl,this,.inl ⟨rfl,rfl,fun z => ?_⟩⟩
        rw [← z,e] at this
        have:=Option.some.inj this
        grind
    . split at he
      . rename_i _ _ hs
        cases he
        cases e:mom (Sum.inr r.2.1) with
        | none => rw [e] at hs; cases hs
        | some f =>
          rw [e] at hs hno
          exact ⟨f,r.1,rfl,rfl,one r.2.1 r.1 f e (.inr ⟨rfl,rfl⟩) hno hs,.inr ⟨rfl,rfl⟩⟩
      . cases he
theorem arr_nil {net:List (RunD Key)} {tk:Nat -> Option Rat} {p:Key} {t:Rat} (h:Arr net (aget (lst [])) tk p t):False:=by
  induction h with
  | push h => cases h
  | run _ _ _ _ ih => exact ih
theorem mom_nil {net:List (RunD Key)} {tk:Nat -> Option Rat} {F:AL Key (EntD Key)} (fo:FOrd net (aget (lst [])) tk F) (p:Key):momOf F p = none:=by
  cases e:momOf F p with
  | none => rfl
  | some t => exact (arr_nil (fo.falls.arr _ _ e)).elim
theorem stands_none {a b:Str} {oa ob tk:Option Rat} {T:Rat} (h:endT (endF a b oa ob T) tk = .stands):oa = none /\ ob = none /\ tk = none:=by
  cases tk with
  | some u =>
    replace h:(if goneB u (endAt (endF a b oa ob T)) = true then .taken u else endF a b oa ob T) = RunEnd.stands:=h
    split at h
    . cases h
    . rename_i c
      rw [h] at c
      exact absurd rfl c
  | none =>
    replace h:endF a b oa ob T = .stands:=h
    unfold endF at h
    split at h
    . rename_i c
      exact ⟨c.1,c.2,rfl⟩
    . split at h
      . cases h
      . split at h <;> cases h
theorem stn_whole {T m:Rat}:stn none none none T m = some (0,1):=by
  show (if (0:Rat) < 1 - 0 then some ((0:Rat),1 - (0:Rat)) else none) = some (0,1)
  rw [if_pos (by grind),show (1:Rat) - 0 = 1 by grind]
theorem cross_sum (f T:Rat):(f + T).num * ((f.den:Int) * T.den) = (f.num * T.den + T.num * f.den) * ((f + T).den:Int):=by
  have h1:((f + T).den:Int) ≠ 0:=by have:=(f + T).den_pos; omega
  have h2:(f.den:Int) * T.den ≠ 0:=Int.mul_ne_zero (by have:=f.den_pos; omega) (by have:=T.den_pos; omega)
  have e:Rat.divInt (f + T).num (f + T).den = Rat.divInt (f.num * T.den + T.num * f.den) (f.den * T.den):=by
    rw [Rat.num_divInt_den,← add_divInt]
  exact (Rat.divInt_eq_divInt_iff h1 h2).mp e
theorem div_up {x y u:Int} (hu:0 < u) (h:x <= y):Rat.divInt x u <= Rat.divInt y u:=by
  have h0:(0:Rat) < (u:Rat):=Rat.intCast_lt_intCast.mpr hu
  rw [Rat.divInt_eq_div,Rat.divInt_eq_div,le_mulT h0,Rat.div_mul_cancel (Rat.ne_of_gt h0),Rat.div_mul_cancel (Rat.ne_of_gt h0)]
  exact Rat.intCast_le_intCast.mpr h
noncomputable def dsp4 (p:Addr) (Q:VK) (x1 y1 x2 y2 x3 y3 x4 y4:V) (H4:Hp):Prop:=H4 p = some (.dK []) /\ ∃ kvs:List (Key×V),[(x1,y1),(x2,y2),(x3,y3),(x4,y4)] = kvs.map (fun kv => (kV kv.1,kv.2)) /\ kvs.length <= 15 /\ Q (.ref p) (upd H4 p (.dK (mergeK [] kvs)))
theorem r_disp4 {σ:St} {H:Hp} {Q:VK} {k1 v1 k2 v2 k3 v3 k4 v4:TE} (k:∀ p,H p = none -> k1 σ (upd H p (.dK [])) fun x1 H1 => v1 σ H1 fun y1 H2 => k2 σ H2 fun x2 H3 => v2 σ H3 fun y2 H4 => k3 σ H4 fun x3 H5 => v3 σ H5 fun y3 H6 => k4 σ H6 fun x4 H7 => v4 σ H7 fun y4 H8 => dsp4 p Q x1 y1 x2 y2 x3 y3 x4 y4 H8):tDisp [(k1,v1),(k2,v2),(k3,v3),(k4,v4)] σ H Q:=k
noncomputable def endK:List (Key×V):=[(Sum.inr "met",.int 1),(Sum.inr "swept",.int 2),(Sum.inr "taken",.int 1),(Sum.inr "stands",.int 0)]
theorem dsp4_end {p:Addr} {H:Hp} {Q:VK} (h:H p = some (.dK [])) (k:Q (.ref p) (upd H p (.dK endK))):dsp4 p Q (.str "met") (.int 1) (.str "swept") (.int 2) (.str "taken") (.int 1) (.str "stands") (.int 0) H :=
  ⟨h,endK,rfl,Nat.le_of_ble_eq_true rfl,by
    rw [mergeK_nd (by rw [List.nil_append]; show (([Sum.inr "met",Sum.inr "swept",Sum.inr "taken",Sum.inr "stands"]:List Key)).Nodup; decide +kernel),List.nil_append]
    exact k⟩
theorem e_left {H:Hp} {Q:VK} {u v:V} {o:Option (Rat×Rat)} (h1:LeftQ H u o) (h2:LeftQ H v o) (k:Q (.bl true) H):rEqB u v H Q:=by
  cases o with
  | none =>
    cases (show u = .non from h1)
    cases (show v = .non from h2)
    exact e_opt (a:=none) (b:=none) rfl rfl (by rw [decide_eq_true rfl]; exact k)
  | some x =>
    obtain ⟨p,a,b,rfl,h,f,g⟩:=h1
    obtain ⟨p',a',b',rfl,h',f',g'⟩:=h2
    have e:deqL [dFr x.1,dFr x.2] [dFr x.1,dFr x.2] = true:=by
      show (deq (dFr x.1) (dFr x.1) && (deq (dFr x.2) (dFr x.2) && true)) = true
      rw [deq_fr,deq_fr]
      rfl
    exact .inl (e_tup (left_den h f g) (left_den h' f' g') (by simp [depL,dep,dFr]) (by rw [e]; exact k))
end L2
namespace Lw
open PySem L2
set_option compiler.extract_closed false
set_option hygiene false
local macro_rules | `(tactic| walk_at "st") => `(tactic| first
  | with_reducible assumption
  | ((with_reducible refine St3.new ?_ ?hn); (case hn => with_reducible assumption); walk_at "st"))
local macro_rules | `(tactic| walk_at "kp") => `(tactic| first
  | with_reducible assumption
  | with_reducible exact Kp.refl _ _
  | ((with_reducible refine Kp.trans ?_ (Kp.new ?hn)); (case hn => with_reducible assumption); walk_at "kp"))
local macro_rules | `(tactic| walk_at "sm") => `(tactic| first
  | with_reducible assumption
  | with_reducible exact Same.refl _
  | ((with_reducible refine Same.trans ?_ (Same.new ?hn)); (case hn => with_reducible assumption); walk_at "sm"))
local macro_rules | `(tactic| walk_at "hp") => `(tactic| first
  | with_reducible assumption
  | with_reducible exact upd_same
  | ((with_reducible refine upd_old ?hn ?_); (case hn => with_reducible assumption); walk_at "hp")
  | ((with_reducible refine upd_not ?hn ?_); (case hn => first | with_reducible assumption | (refine Ne.symm ?_; with_reducible assumption)); walk_at "hp")
  | ((with_reducible refine Same.app ?hn ?_); (case hn => with_reducible assumption); walk_at "hp")
  | ((with_reducible refine Kp.app ?hk ?hn ?_); (case hk => with_reducible assumption); (case hn => first | with_reducible assumption | (refine Ne.symm ?_; with_reducible assumption)); walk_at "hp"))
local macro_rules | `(tactic| walk_at "tk") => `(tactic| first
  | with_reducible exact TK.refl _
  | with_reducible assumption
  | ((with_reducible refine TK.trans ?_ (TK.new ?hn)); (case hn => with_reducible assumption); walk_at "tk")
  | ((with_reducible refine TK.trans ?_ (TK.lst ?hn)); (case hn => walk_at "hp"); walk_at "tk")
  | ((with_reducible refine TK.trans ?_ (TK.dic ?hn)); (case hn => walk_at "hp"); walk_at "tk")
  | ((with_reducible refine TK.trans ?_ (TK.frz ?hn)); (case hn => walk_at "hp"); walk_at "tk")
  | ((with_reducible refine TK.trans ?_ TK.melt); walk_at "tk")
  | ((with_reducible refine TK.trans ?_ (Same.tk ?hn)); (case hn => with_reducible assumption); walk_at "tk")
  | ((with_reducible refine TK.trans ?_ (St3.tk ?hs ?hn)); (case hn => with_reducible assumption); (case hs => with_reducible assumption); walk_at "tk"))
local macro_rules | `(tactic| walk_at "fq") => `(tactic| first
  | with_reducible assumption
  | ((with_reducible refine FrQ.tk ?fa ?ft); (case fa => with_reducible assumption); (case ft => walk_at "tk")))
local macro_rules | `(tactic| walk_at "go1") => `(tactic| first
  | with_reducible refine r_seq ?_
  | ((with_reducible refine r_nxD ?_); (with_reducible refine r_nx ?_))
  | ((with_reducible refine r_rtD ?_); (with_reducible refine r_rt ?_))
  | ((with_reducible refine r_ctD ?_); (with_reducible refine r_ct ?_))
  | with_reducible refine r_asg ?_
  | with_reducible refine r_gname ?_
  | ((with_reducible refine' r_var ?rv ?_); case rv => exact rfl)
  | with_reducible refine r_c ?_
  | with_reducible refine r_op ?_
  | with_reducible refine r_un ?_
  | with_reducible refine r_I0 ?_
  | with_reducible refine r_U ?_
  | with_reducible refine a_int ?_
  | with_reducible refine r_sl ?_
  | with_reducible refine r_part ?_
  | with_reducible refine r_partK ?_
  | with_reducible refine r_nopart ?_
  | ((with_reducible refine r_mod ?mc ?_); case mc => first | decide | omega)
  | ((with_reducible refine r_modN ?mc ?_); case mc => first | decide | omega)
  | ((with_reducible refine r_mul ?mc ?_); case mc => first | exact CMulB.r (by decide) (by decide) | exact CMulB.l (by decide) (by decide) | exact CMulB.l (by omega) (by omega) | exact CMulB.r (by omega) (by omega))
  | ((with_reducible refine r_fdiv ?mc ?_); case mc => first | exact CDivB.of (by decide) (by decide) | exact CDivB.of (by omega) (by omega))
  | with_reducible refine r_pow9 ?_
  | with_reducible refine r_test ?_
  | with_reducible refine r_tB ?_
  | with_reducible refine r_bK ?_
  | with_reducible refine r_ifS ?_
  | with_reducible refine r_if ?_
  | with_reducible refine r_and ?_
  | with_reducible refine r_or ?_
  | with_reducible refine r_not ?_
  | with_reducible refine r_andV ?_
  | with_reducible refine r_orV ?_
  | with_reducible refine r_notV ?_
  | with_reducible refine r_andK ?_
  | with_reducible refine r_orK ?_
  | with_reducible refine r_notK ?_
  | with_reducible refine r_ret ?_
  | with_reducible refine r_next ?_
  | with_reducible refine r_drop ?_
  | with_reducible refine r_nil ?_
  | with_reducible refine r_cons ?_
  | with_reducible refine r_tup ?_
  | with_reducible refine r_lst ?_
  | with_reducible refine r_call ?_
  | with_reducible refine r_callD ?_
  | with_reducible refine r_CB ?_
  | with_reducible refine r_dget ?_
  | with_reducible refine r_din ?_
  | with_reducible refine r_dnin ?_
  | with_reducible refine r_dput ?_
  | with_reducible refine r_dget1 ?_
  | with_reducible refine r_dget2 ?_
  | with_reducible refine r_dpop1 ?_
  | with_reducible refine r_bm ?_
  | with_reducible refine r_gcons ?_
  | with_reducible refine r_gnil ?_
  | with_reducible refine r_iEnum ?_
  | with_reducible refine r_tru ?_
  | with_reducible refine r_orT ?_
  | with_reducible refine r_cont ?_
  | with_reducible refine r_isNr ?_
  | with_reducible refine r_isNn ?_
  | with_reducible refine r_isNk ?_
  | with_reducible refine r_noNr ?_
  | with_reducible refine r_noNn ?_
  | ((with_reducible refine' r_bmL ?ih ?_); (case ih => walk_at "hp"))
  | ((with_reducible refine' r_bmD ?ih ?_); (case ih => walk_at "hp"))
  | ((with_reducible refine' r_gtup2 ?ih ?_); (case ih => walk_at "hp"))
  | ((with_reducible refine' r_gtup3 ?ih ?_); (case ih => walk_at "hp"))
  | with_reducible refine r_par ?_
  | with_reducible refine r_parK ?_
  | with_reducible refine e_int ?_
  | with_reducible refine n_int ?_
  | with_reducible refine n_bl ?_
  | with_reducible refine e_str ?_
  | with_reducible refine n_str ?_
  | with_reducible refine r_abs ?_
  | with_reducible refine r_max ?_
  | with_reducible refine r_min ?_
  | with_reducible refine r_for ?_
  | with_reducible refine r_comp ?_
  | with_reducible refine r_rng1 ?_
  | with_reducible refine r_rng2 ?_
  | with_reducible refine r_iList ?_
  | ((with_reducible refine' r_lenl ?ih ?_); (case ih => walk_at "hp"))
  | ((with_reducible refine' r_ixt ?ih ?ie ?_); (case ih => walk_at "hp"); (case ie => exact rfl))
  | with_reducible refine i_sN ?_
  | with_reducible refine i_sS ?_
  | with_reducible refine i_T ?_
  | with_reducible refine i_F ?_
  | with_reducible refine i_flip ?_
  | ((with_reducible refine i_dF ?dc ?_); case dc => omega))
local macro_rules | `(tactic| walk_at "go") => `(tactic| repeat (walk_at "go1"))
local macro_rules | `(tactic| walk_at "gos") => `(tactic| repeat ((fail_if_success (with_reducible refine r_seq ?_)); walk_at "go1"))
set_option hygiene true
theorem cxK_of {CX:CXT} {P:Program} {w:World} {K:PySem.W.Frag} {mg:Str -> Option Value} {base:Heap} {N:List Str} {qual:Str} {scope:Scope} {f:Addr} {cd:Value} {A:Around} {outer:List Env} {s:Shared} {H:Hp} {E:XK}:(cxOf CX P w K mg base N qual scope f cd A outer s H E).K = K:=rfl
theorem cxK_nox {X:Cx}:X.nox.K = X.K:=rfl
theorem el_n {P:List Value -> Prop} (h:P []):∀ us:List Value,us.length = 0 -> P us:=fun us e => (List.length_eq_zero_iff.mp e).symm ▸ h
theorem el_s {n:Nat} {P:List Value -> Prop} (h:∀ a us,us.length = n -> P (a :: us)):∀ us:List Value,us.length = n + 1 -> P us:=fun us => List.casesOn (motive:=fun us => us.length = n + 1 -> P us) us (fun e => absurd e (Nat.succ_ne_zero n).symm) fun a us e => h a us (Nat.succ.inj e)
theorem el_1 {P:List Value -> Prop} (h:∀ a0,P [a0]):∀ us:List Value,us.length = 1 -> P us:=el_s fun a0 => el_n (h a0)
theorem el_2 {P:List Value -> Prop} (h:∀ a0 a1,P [a0,a1]):∀ us:List Value,us.length = 2 -> P us:=el_s fun a0 => el_s fun a1 => el_n (h a0 a1)
theorem el_3 {P:List Value -> Prop} (h:∀ a0 a1 a2,P [a0,a1,a2]):∀ us:List Value,us.length = 3 -> P us:=el_s fun a0 => el_s fun a1 => el_s fun a2 => el_n (h a0 a1 a2)
theorem el_4 {P:List Value -> Prop} (h:∀ a0 a1 a2 a3,P [a0,a1,a2,a3]):∀ us:List Value,us.length = 4 -> P us:=el_s fun a0 => el_s fun a1 => el_s fun a2 => el_s fun a3 => el_n (h a0 a1 a2 a3)
theorem el_5 {P:List Value -> Prop} (h:∀ a0 a1 a2 a3 a4,P [a0,a1,a2,a3,a4]):∀ us:List Value,us.length = 5 -> P us:=el_s fun a0 => el_s fun a1 => el_s fun a2 => el_s fun a3 => el_s fun a4 => el_n (h a0 a1 a2 a3 a4)
theorem el_6 {P:List Value -> Prop} (h:∀ a0 a1 a2 a3 a4 a5,P [a0,a1,a2,a3,a4,a5]):∀ us:List Value,us.length = 6 -> P us:=el_s fun a0 => el_s fun a1 => el_s fun a2 => el_s fun a3 => el_s fun a4 => el_s fun a5 => el_n (h a0 a1 a2 a3 a4 a5)
noncomputable def top (i:Nat):Stmt:=PySem.Challenge.pw_tilefall_k23_whole_amid_and_end.main.body.getD i (.Pass ⟨0,0,0,0⟩)
noncomputable abbrev s_is_whole:Stmt:=top 4
theorem sc_is_whole:FnScope ["thing"] ["thing"] (defScope s_is_whole):=⟨rfl,rfl,rfl,by decide +kernel,rfl,by decide +kernel,by decide +kernel⟩
noncomputable abbrev s_common_divisor:Stmt:=top 5
theorem sc_common_divisor:FnScope ["one","other","rest"] ["one","other"] (defScope s_common_divisor):=⟨rfl,rfl,rfl,by decide +kernel,rfl,by decide +kernel,by decide +kernel⟩
noncomputable abbrev s_fraction:Stmt:=top 6
theorem sc_fraction:FnScope ["top","bottom","divisor"] ["top","bottom"] (defScope s_fraction):=⟨rfl,rfl,rfl,by decide +kernel,rfl,by decide +kernel,by decide +kernel⟩
noncomputable abbrev s_added:Stmt:=top 7
theorem sc_added:FnScope ["one","other","shared","part","top","divisor"] ["one","other"] (defScope s_added):=⟨rfl,rfl,rfl,by decide +kernel,rfl,by decide +kernel,by decide +kernel⟩
noncomputable abbrev s_lessened:Stmt:=top 8
theorem sc_lessened:FnScope ["one","other"] ["one","other"] (defScope s_lessened):=⟨rfl,rfl,rfl,by decide +kernel,rfl,by decide +kernel,by decide +kernel⟩
noncomputable abbrev s_timed:Stmt:=top 9
theorem sc_timed:FnScope ["one","other"] ["one","other"] (defScope s_timed):=⟨rfl,rfl,rfl,by decide +kernel,rfl,by decide +kernel,by decide +kernel⟩
noncomputable abbrev s_divided:Stmt:=top 10
theorem sc_divided:FnScope ["one","other"] ["one","other"] (defScope s_divided):=⟨rfl,rfl,rfl,by decide +kernel,rfl,by decide +kernel,by decide +kernel⟩
noncomputable abbrev s_is_less:Stmt:=top 11
theorem sc_is_less:FnScope ["one","other"] ["one","other"] (defScope s_is_less):=⟨rfl,rfl,rfl,by decide +kernel,rfl,by decide +kernel,by decide +kernel⟩
noncomputable abbrev s_posts_of:Stmt:=top 13
theorem sc_posts_of:FnScope ["net"] ["net"] (defScope s_posts_of):=⟨rfl,rfl,rfl,by decide +kernel,rfl,by decide +kernel,by decide +kernel⟩
noncomputable abbrev s_runs_beside:Stmt:=top 14
theorem sc_runs_beside:FnScope ["net","beside","number","run"] ["net"] (defScope s_runs_beside):=⟨rfl,rfl,rfl,by decide +kernel,rfl,by decide +kernel,by decide +kernel⟩
noncomputable abbrev s_least_moments:Stmt:=top 16
theorem sc_least_moments:FnScope ["deeds","least","thing","moment"] ["deeds"] (defScope s_least_moments):=⟨rfl,rfl,rfl,by decide +kernel,rfl,by decide +kernel,by decide +kernel⟩
noncomputable abbrev s_is_out:Stmt:=top 17
theorem sc_is_out:FnScope ["taken","number","moment"] ["taken","number","moment"] (defScope s_is_out):=⟨rfl,rfl,rfl,by decide +kernel,rfl,by decide +kernel,by decide +kernel⟩
noncomputable abbrev s_earliest_of:Stmt:=top 18
theorem sc_earliest_of:FnScope ["waiting","earliest","post"] ["waiting"] (defScope s_earliest_of):=⟨rfl,rfl,rfl,by decide +kernel,rfl,by decide +kernel,by decide +kernel⟩
noncomputable abbrev s_falls_of:Stmt:=top 19
theorem sc_falls_of:FnScope ["net","pushes","takings","beside","taken","pushed","waiting","fallen","post","number","other","moment"] ["net","pushes","takings"] (defScope s_falls_of):=⟨rfl,rfl,rfl,by decide +kernel,rfl,by decide +kernel,by decide +kernel⟩
noncomputable abbrev s_fall_moments:Stmt:=top 20
theorem sc_fall_moments:FnScope ["net","pushes","takings","fallen"] ["net","pushes","takings"] (defScope s_fall_moments):=⟨rfl,rfl,rfl,by decide +kernel,rfl,by decide +kernel,by decide +kernel⟩
noncomputable abbrev s_share_passed:Stmt:=top 22
theorem sc_share_passed:FnScope ["fell","time","moment"] ["fell","time","moment"] (defScope s_share_passed):=⟨rfl,rfl,rfl,by decide +kernel,rfl,by decide +kernel,by decide +kernel⟩
noncomputable abbrev s_standing_by:Stmt:=top 23
theorem sc_standing_by:FnScope ["run","moments","taken","moment","first","last"] ["run","moments","taken","moment"] (defScope s_standing_by):=⟨rfl,rfl,rfl,by decide +kernel,rfl,by decide +kernel,by decide +kernel⟩
noncomputable abbrev s_standing_in:Stmt:=top 24
theorem sc_standing_in:FnScope ["net","pushes","number","moment","takings","moments"] ["net","pushes","number","moment","takings"] (defScope s_standing_in):=⟨rfl,rfl,rfl,by decide +kernel,rfl,by decide +kernel,by decide +kernel⟩
noncomputable abbrev s_is_swept:Stmt:=top 25
theorem sc_is_swept:FnScope ["fell","time","beyond"] ["fell","time","beyond"] (defScope s_is_swept):=⟨rfl,rfl,rfl,by decide +kernel,rfl,by decide +kernel,by decide +kernel⟩
noncomputable abbrev s_ending_by_falls:Stmt:=top 26
theorem sc_ending_by_falls:FnScope ["run","moments","one","other","met"] ["run","moments"] (defScope s_ending_by_falls):=⟨rfl,rfl,rfl,by decide +kernel,rfl,by decide +kernel,by decide +kernel⟩
noncomputable abbrev s_moment_of:Stmt:=top 27
theorem sc_moment_of:FnScope ["ending"] ["ending"] (defScope s_moment_of):=⟨rfl,rfl,rfl,by decide +kernel,rfl,by decide +kernel,by decide +kernel⟩
noncomputable abbrev s_ending_by:Stmt:=top 28
theorem sc_ending_by:FnScope ["run","moments","taken","ending","ended"] ["run","moments","taken"] (defScope s_ending_by):=⟨rfl,rfl,rfl,by decide +kernel,rfl,by decide +kernel,by decide +kernel⟩
noncomputable abbrev s_ending_of:Stmt:=top 29
theorem sc_ending_of:FnScope ["net","pushes","number","takings","moments"] ["net","pushes","number","takings"] (defScope s_ending_of):=⟨rfl,rfl,rfl,by decide +kernel,rfl,by decide +kernel,by decide +kernel⟩
noncomputable abbrev s_cell_at:Stmt:=top 31
theorem sc_cell_at:FnScope ["_law_script","_law_k"] ["_law_script","_law_k"] (defScope s_cell_at):=⟨rfl,rfl,rfl,by decide +kernel,rfl,by decide +kernel,by decide +kernel⟩
noncomputable abbrev s_mixed:Stmt:=top 32
theorem sc_mixed:FnScope ["_law_cell","_law_k","_law_number_here"] ["_law_cell","_law_k"] (defScope s_mixed):=⟨rfl,rfl,rfl,by decide +kernel,rfl,by decide +kernel,by decide +kernel⟩
noncomputable abbrev s_number:Stmt:=top 33
theorem sc_number:FnScope ["_law_script","_law_k","_law_cell"] ["_law_script","_law_k"] (defScope s_number):=⟨rfl,rfl,rfl,by decide +kernel,rfl,by decide +kernel,by decide +kernel⟩
noncomputable abbrev s_low:Stmt:=top 34
theorem sc_low:FnScope ["_law_top","_law_bottom","_law_one","_law_other"] ["_law_top","_law_bottom"] (defScope s_low):=⟨rfl,rfl,rfl,by decide +kernel,rfl,by decide +kernel,by decide +kernel⟩
noncomputable abbrev s_posts:Stmt:=top 35
theorem sc_posts:FnScope ["_law_number_here","_law_letters","_law_count","_law_size","_law_word","_law_k","_law_at","_law_names","_law_tail","_law_sign"] ["_law_number_here"] (defScope s_posts):=⟨rfl,rfl,rfl,by decide +kernel,rfl,by decide +kernel,by decide +kernel⟩
noncomputable abbrev s_time:Stmt:=top 36
theorem sc_time:FnScope ["_law_number_here"] ["_law_number_here"] (defScope s_time):=⟨rfl,rfl,rfl,by decide +kernel,rfl,by decide +kernel,by decide +kernel⟩
noncomputable abbrev s_here:Stmt:=top 37
theorem sc_here:FnScope ["_law_script","_law_most","_law_names","_law_unit","_law_here_here","_law_k","_law_number_here","_law_kind","_law_a","_law_b","_law_moment"] ["_law_script","_law_most"] (defScope s_here):=⟨rfl,rfl,rfl,by decide +kernel,rfl,by decide +kernel,by decide +kernel⟩
noncomputable abbrev s_net:Stmt:=top 38
theorem sc_net:FnScope ["_law_here_here","_law_names"] ["_law_here_here"] (defScope s_net):=⟨rfl,rfl,rfl,by decide +kernel,rfl,by decide +kernel,by decide +kernel⟩
noncomputable abbrev s_pushes:Stmt:=top 39
theorem sc_pushes:FnScope ["_law_here_here","_law_used"] ["_law_here_here"] (defScope s_pushes):=⟨rfl,rfl,rfl,by decide +kernel,rfl,by decide +kernel,by decide +kernel⟩
noncomputable abbrev s_handed:Stmt:=top 42
theorem sc_handed:FnScope ["_law_here_here","_law_names","_law_unit","_law_pushes_here"] ["_law_here_here"] (defScope s_handed):=⟨rfl,rfl,rfl,by decide +kernel,rfl,by decide +kernel,by decide +kernel⟩
noncomputable abbrev s_less:Stmt:=top 43
theorem sc_less:FnScope ["_law_one","_law_other"] ["_law_one","_law_other"] (defScope s_less):=⟨rfl,rfl,rfl,by decide +kernel,rfl,by decide +kernel,by decide +kernel⟩
noncomputable abbrev s_end_at:Stmt:=top 44
theorem sc_end_at:FnScope ["_law_told"] ["_law_told"] (defScope s_end_at):=⟨rfl,rfl,rfl,by decide +kernel,rfl,by decide +kernel,by decide +kernel⟩
noncomputable abbrev s_within:Stmt:=top 45
theorem sc_within:FnScope ["_law_inner","_law_outer"] ["_law_inner","_law_outer"] (defScope s_within):=⟨rfl,rfl,rfl,by decide +kernel,rfl,by decide +kernel,by decide +kernel⟩
noncomputable abbrev s_swept:Stmt:=top 46
theorem sc_swept:FnScope ["_law_net_here","_law_fallen","_law_k","_law_told","_law_one","_law_other","_law_time_here","_law_begun","_law_comes"] ["_law_net_here","_law_fallen","_law_k","_law_told"] (defScope s_swept):=⟨rfl,rfl,rfl,by decide +kernel,rfl,by decide +kernel,by decide +kernel⟩
noncomputable abbrev s_run_right:Stmt:=top 47
theorem sc_run_right:FnScope ["_law_net_here","_law_pushes_here","_law_takings","_law_k","_law_moments","_law_fallen","_law_told","_law_last","_law_moment","_law_left","_law_over"] ["_law_net_here","_law_pushes_here","_law_takings","_law_k","_law_moments","_law_fallen"] (defScope s_run_right):=⟨rfl,rfl,rfl,by decide +kernel,rfl,by decide +kernel,by decide +kernel⟩
noncomputable abbrev s_law:Stmt:=top 48
theorem sc_law:FnScope ["_law_script","_law_here_here","_law_net_here","_law_pushes_here","_law_takings","_law_fallen","_law_some","_law_moments","_law_k"] ["_law_script"] (defScope s_law):=⟨rfl,rfl,rfl,by decide +kernel,rfl,by decide +kernel,by decide +kernel⟩
inductive spWhole_I (K:PySem.W.Frag) (vs:List V) (H:Hp) (Q:VK) (EE:XK):Prop
  | mk (x:V) (t:Value) (b c:Bool) (h0':vs = [x]) (h1':TyOf K H x t) (h2':PySem.W.kitOne K t (.type "int") = some b) (h3':PySem.W.kitOne K t (.type "bool") = some c) (h4':Q (.bl (b && !c)) H):spWhole_I K vs H Q EE
noncomputable def spWhole (K:PySem.W.Frag):Sp:=fun vs H Q EE => spWhole_I K vs H Q EE
inductive spGcd_I (vs:List V) (H:Hp) (Q:VK) (EE:XK):Prop
  | mk (a b:Int) (h0':vs = [.int a,.int b]) (h1':Q (.int (Int.gcd a b:Int)) H):spGcd_I vs H Q EE
noncomputable def spGcd:Sp:=fun vs H Q EE => spGcd_I vs H Q EE
inductive spFraction_I (K:PySem.W.Frag) (vs:List V) (H:Hp) (Q:VK) (EE:XK):Prop
  | mk (t b:Int) (h0':vs = [.int t,.int b]) (h1':b ≠ 0) (h2':Sm 8000 b) (h3':∀ p,H p = none -> Q (.ref p) (upd H p (.tup [.int (lowT t b),.int (lowB t b)]))):spFraction_I K vs H Q EE
noncomputable def spFraction (K:PySem.W.Frag):Sp:=fun vs H Q EE => spFraction_I K vs H Q EE
inductive spAddQ_I (vs:List V) (H:Hp) (Q:VK) (EE:XK):Prop
  | mk (x y:V) (q r:Rat) (h0':vs = [x,y]) (h1':FrQ H x q) (h2':FrQ H y r) (h3':Sz 8000 q) (h4':Sz 8000 r) (h5':∀ v H',FrQ H' v (q + r) -> Same H H' -> Q v H'):spAddQ_I vs H Q EE
noncomputable def spAddQ:Sp:=fun vs H Q EE => spAddQ_I vs H Q EE
inductive spLesQ_I (vs:List V) (H:Hp) (Q:VK) (EE:XK):Prop
  | mk (x y:V) (q r:Rat) (h0':vs = [x,y]) (h1':FrQ H x q) (h2':FrQ H y r) (h3':Sz 8000 q) (h4':Sz 8000 r) (h5':∀ v H',FrQ H' v (q - r) -> Same H H' -> Q v H'):spLesQ_I vs H Q EE
noncomputable def spLesQ:Sp:=fun vs H Q EE => spLesQ_I vs H Q EE
inductive spTimQ_I (vs:List V) (H:Hp) (Q:VK) (EE:XK):Prop
  | mk (x y:V) (q r:Rat) (h0':vs = [x,y]) (h1':FrQ H x q) (h2':FrQ H y r) (h3':Sz 3000 q) (h4':Sz 3000 r) (h5':∀ v H',FrQ H' v (q * r) -> Same H H' -> Q v H'):spTimQ_I vs H Q EE
noncomputable def spTimQ:Sp:=fun vs H Q EE => spTimQ_I vs H Q EE
inductive spDivQ_I (vs:List V) (H:Hp) (Q:VK) (EE:XK):Prop
  | mk (x y:V) (q r:Rat) (h0':vs = [x,y]) (h1':FrQ H x q) (h2':FrQ H y r) (h3':Sz 3000 q) (h4':Sz 3000 r) (h5':r ≠ 0) (h6':∀ v H',FrQ H' v (q / r) -> Same H H' -> Q v H'):spDivQ_I vs H Q EE
noncomputable def spDivQ:Sp:=fun vs H Q EE => spDivQ_I vs H Q EE
inductive spLessQ_I (vs:List V) (H:Hp) (Q:VK) (EE:XK):Prop
  | mk (x y:V) (q r:Rat) (h0':vs = [x,y]) (h1':FrQ H x q) (h2':FrQ H y r) (h3':Sz 8000 q) (h4':Sz 8000 r) (h5':Q (.bl (decide (q < r))) H):spLessQ_I vs H Q EE
noncomputable def spLessQ:Sp:=fun vs H Q EE => spLessQ_I vs H Q EE
inductive spPosts_I (w:World) (vs:List V) (H:Hp) (Q:VK) (EE:XK):Prop
  | mk (l:Addr) (n:List TRun) (U:List Str) (h0':vs = [.ref l]) (h1':LQ RunQ H l (kn n)) (h2':n.length <= 120) (h3':U.length < 64) (h4':(∀ x ∈ names n,x ∈ U)) (h5':∀ p H' ys,H p = none -> Same H H' -> H' p = some (.lst (ys.map V.str)) -> Srt ys -> ys.Nodup -> (∀ x,x ∈ ys ↔ x ∈ names n) -> Q (.ref p) H'):spPosts_I w vs H Q EE
noncomputable def spPosts (w:World):Sp:=fun vs H Q EE => spPosts_I w vs H Q EE
inductive spBes_I (vs:List V) (H:Hp) (Q:VK) (EE:XK):Prop
  | mk (l:Addr) (net:List (RunD Key)) (h0':vs = [.ref l]) (h1':LQ RunQ H l net) (h2':net.length <= 120) (h3':∀ d H',H d = none -> Same H H' -> Bes H' d net -> Q (.ref d) H'):spBes_I vs H Q EE
noncomputable def spBes:Sp:=fun vs H Q EE => spBes_I vs H Q EE
inductive spLst_I (vs:List V) (H:Hp) (Q:VK) (EE:XK):Prop
  | mk (l:Addr) (ds:List (Key×Rat)) (h0':vs = [.ref l]) (h1':LQ KvQ H l ds) (h2':ds.length <= 500) (h3':(∀ x ∈ ds,Sz 8000 x.2)) (h4':∀ d H',H d = none -> Same H H' -> DQ FrQ H' d (lst ds) -> Q (.ref d) H'):spLst_I vs H Q EE
noncomputable def spLst:Sp:=fun vs H Q EE => spLst_I vs H Q EE
noncomputable def outB (tm:AL Key Rat) (k:Int) (t:Rat):Bool:=match aget tm (Sum.inl k) with | none => false | some u => decide (u < t)
inductive spOut_I (vs:List V) (H:Hp) (Q:VK) (EE:XK):Prop
  | mk (d:Addr) (tm:AL Key Rat) (k:Int) (v:V) (t:Rat) (h0':vs = [.ref d,.int k,v]) (h1':DQ FrQ H d tm) (h2':FrQ H v t) (h3':(∀ x ∈ tm,Sz 8000 x.2)) (h4':Sz 8000 t) (h5':Q (.bl (outB tm k t)) H):spOut_I vs H Q EE
noncomputable def spOut:Sp:=fun vs H Q EE => spOut_I vs H Q EE
inductive spEar_I (vs:List V) (H:Hp) (Q:VK) (EE:XK):Prop
  | mk (a:Addr) (W:AL Key (EntD Key)) (h0':vs = [.ref a]) (h1':DQ EntQ H a W) (h2':(W.map (·.1)).Nodup) (h3':(∀ x ∈ W,Sz 8000 x.2.1)) (h4':W ≠ []) (h5':∀ p e,(p,e) ∈ W -> (∀ w ∈ W,e.1 <= w.2.1) -> Q (kV p) H):spEar_I vs H Q EE
noncomputable def spEar:Sp:=fun vs H Q EE => spEar_I vs H Q EE
noncomputable def tkOf (ts:List (Key×Rat)):Nat -> Option Rat:=fun k => aget (lst ts) (Sum.inl (k:Int))
inductive spFls_I (vs:List V) (H:Hp) (Q:VK) (EE:XK):Prop
  | mk (l:Addr) (net:List (RunD Key)) (lp:Addr) (ps:List (Key×Rat)) (vt:V) (ts:List (Key×Rat)) (D M:Nat) (h0':vs = [.ref l,.ref lp,vt]) (h1':NetIn H l net D M) (h2':PsIn H lp ps D M) (h3':TsIn H vt ts) (h4':Room8 D M) (h5':∀ d H' F,H d = none -> Same H H' -> DQ EntQ H' d F -> FOrd net (aget (lst ps)) (tkOf ts) F -> F.length <= ps.length + 2 * net.length -> (∀ x ∈ F,Bd D (M * 1000) x.2.1) -> Q (.ref d) H'):spFls_I vs H Q EE
noncomputable def spFls:Sp:=fun vs H Q EE => spFls_I vs H Q EE
inductive spFm_I (w:World) (vs:List V) (H:Hp) (Q:VK) (EE:XK):Prop
  | mk (l:Addr) (n:List TRun) (lp:Addr) (ps:List (Key×Rat)) (vt:V) (ts:List (Key×Rat)) (D M:Nat) (U:List Str) (h0':vs = [.ref l,.ref lp,vt]) (h1':NetIn H l (kn n) D M) (h2':PsIn H lp ps D M) (h3':TsIn H vt ts) (h4':Room8 D M) (h5':U.length < 64) (h6':(∀ x ∈ names n,x ∈ U)) (h7':∀ d H' F ys,H d = none -> Same H H' -> DQ OptQ H' d (ys.map fun y => (Sum.inr y,momOf F (Sum.inr y))) -> FOrd (kn n) (aget (lst ps)) (tkOf ts) F -> (∀ x ∈ F,Bd D (M * 1000) x.2.1) -> Srt ys -> ys.Nodup -> (∀ x,x ∈ ys ↔ x ∈ names n) -> Q (.ref d) H'):spFm_I w vs H Q EE
noncomputable def spFm (w:World):Sp:=fun vs H Q EE => spFm_I w vs H Q EE
inductive spShr_I (vs:List V) (H:Hp) (Q:VK) (EE:XK):Prop
  | mk (vf vT vm:V) (o:Option Rat) (T m:Rat) (h0':vs = [vf,vT,vm]) (h1':OptQ H vf o) (h2':FrQ H vT T) (h3':FrQ H vm m) (h4':T ≠ 0) (h5':Sz 400 T) (h6':Sz 400 m) (h7':(∀ f,o = some f -> Sz 400 f)) (h8':∀ v H',FrQ H' v (shr o T m) -> Same H H' -> Q v H'):spShr_I vs H Q EE
noncomputable def spShr:Sp:=fun vs H Q EE => spShr_I vs H Q EE
inductive spStBy_I (vs:List V) (H:Hp) (Q:VK) (EE:XK):Prop
  | mk (pr d:Addr) (vt vm:V) (a b:Str) (u:V) (T m:Rat) (kd:List (Key×V)) (oa ob tk:Option Rat) (va vb:V) (h0':vs = [.ref pr,.ref d,vt,vm]) (h1':H pr = some (.tup [.str a,.str b,u])) (h2':FrQ H u T) (h3':H d = some (.dK kd)) (h4':valV kd (Sum.inr a) = some va) (h5':OptQ H va oa) (h6':valV kd (Sum.inr b) = some vb) (h7':OptQ H vb ob) (h8':OptQ H vt tk) (h9':FrQ H vm m) (h10':T ≠ 0) (h11':Sz 400 T) (h12':Sz 400 m) (h13':(∀ f,oa = some f -> Sz 400 f)) (h14':(∀ f,ob = some f -> Sz 400 f)) (h15':(∀ f,tk = some f -> Sz 400 f)) (h16':∀ v H',LeftQ H' v (stn oa ob tk T m) -> Same H H' -> Q v H'):spStBy_I vs H Q EE
noncomputable def spStBy:Sp:=fun vs H Q EE => spStBy_I vs H Q EE
theorem shr_sz {o:Option Rat} {T m:Rat} (hT:T ≠ 0) (zT:Sz 400 T) (zm:Sz 400 m) (zo:∀ f,o = some f -> Sz 400 f):Sz 1300 (shr o T m):=by
  have z0:Sz 1300 0:=⟨Nat.pow_pos (by decide),Nat.one_lt_two_pow (by decide)⟩
  cases o with
  | none => exact z0
  | some f =>
    show Sz 1300 (if m < f then 0 else (m - f) / T)
    split
    . exact z0
    . exact (Sz.div (Sz.sub zm (zo f rfl)) zT hT).mono (by decide)
theorem pd_atT {β:Type} {R:V -> β -> Prop}:∀ {xs:List V} {ds:List β},Paired R xs ds -> ∀ {i:Nat} {d:β},ds[i]? = some d -> ∃ x,xs[i]? = some x /\ R x d
  | _,_,.nil,i,d,h => by cases h
  | _,_,.cons r t,0,d,h => by cases h; exact ⟨_,rfl,r⟩
  | _,_,.cons r t,i + 1,d,h => pd_atT t h
inductive spStIn_I (w:World) (vs:List V) (H:Hp) (Q:VK) (EE:XK):Prop
  | mk (l:Addr) (n:List TRun) (lp:Addr) (ps:List (Key×Rat)) (vt:V) (ts:List (Key×Rat)) (D M:Nat) (U:List Str) (k:Nat) (r:TRun) (vm:V) (m:Rat) (h0':vs = [.ref l,.ref lp,.int (k:Int),vm,vt]) (h1':NetIn H l (kn n) D M) (h2':PsIn H lp ps D M) (h3':TsIn H vt ts) (h4':Room8 D M) (h5':U.length < 64) (h6':(∀ x ∈ names n,x ∈ U)) (h7':n[k]? = some r) (h8':FrQ H vm m) (h9':Sz 400 m) (h10':(∀ t,Bd D (M * 1000) t -> Sz 400 t)) (h11':(∀ x ∈ ts,Sz 400 x.2)) (h12':∀ v H' F,Same H H' -> FOrd (kn n) (aget (lst ps)) (tkOf ts) F -> (∀ p f,momOf F p = some f -> Sz 400 f) -> LeftQ H' v (stn (momOf F (Sum.inr r.1)) (momOf F (Sum.inr r.2.1)) (tkOf ts k) r.2.2 m) -> Q v H'):spStIn_I w vs H Q EE
noncomputable def spStIn (w:World):Sp:=fun vs H Q EE => spStIn_I w vs H Q EE
inductive spSwp_I (vs:List V) (H:Hp) (Q:VK) (EE:XK):Prop
  | mk (vf vT vb:V) (o:Option Rat) (T:Rat) (p:Option Rat) (h0':vs = [vf,vT,vb]) (h1':OptQ H vf o) (h2':FrQ H vT T) (h3':OptQ H vb p) (h4':Sz 400 T) (h5':(∀ f,o = some f -> Sz 400 f)) (h6':(∀ f,p = some f -> Sz 400 f)) (h7':∀ H',Same H H' -> Q (.bl (swp o T p)) H'):spSwp_I vs H Q EE
noncomputable def spSwp:Sp:=fun vs H Q EE => spSwp_I vs H Q EE
inductive spEnF_I (vs:List V) (H:Hp) (Q:VK) (EE:XK):Prop
  | mk (pr d:Addr) (a b:Str) (u:V) (T:Rat) (kd:List (Key×V)) (oa ob:Option Rat) (va vb:V) (h0':vs = [.ref pr,.ref d]) (h1':H pr = some (.tup [.str a,.str b,u])) (h2':FrQ H u T) (h3':H d = some (.dK kd)) (h4':valV kd (Sum.inr a) = some va) (h5':OptQ H va oa) (h6':valV kd (Sum.inr b) = some vb) (h7':OptQ H vb ob) (h8':0 < T) (h9':Sz 400 T) (h10':(∀ f,oa = some f -> Sz 400 f)) (h11':(∀ f,ob = some f -> Sz 400 f)) (h12':∀ v H',EndQ H' v (endF a b oa ob T) -> Same H H' -> Q v H'):spEnF_I vs H Q EE
noncomputable def spEnF:Sp:=fun vs H Q EE => spEnF_I vs H Q EE
inductive spMoE_I (vs:List V) (H:Hp) (Q:VK) (EE:XK):Prop
  | mk (v:V) (e:RunEnd) (h0':vs = [v]) (h1':EndQ H v e) (h2':∀ u,OptQ H u (endAt e) -> Q u H):spMoE_I vs H Q EE
noncomputable def spMoE:Sp:=fun vs H Q EE => spMoE_I vs H Q EE
theorem end_sz {a b:Str} {oa ob:Option Rat} {T:Rat} (zT:Sz 400 T) (za:∀ f,oa = some f -> Sz 400 f) (zb:∀ f,ob = some f -> Sz 400 f):∀ t,endAt (endF a b oa ob T) = some t -> Sz 2000 t:=by
  have g0:∀ {o:Option Rat},(∀ f,o = some f -> Sz 400 f) -> Sz 400 (o.getD 0):=fun {o} h => by
    cases o with
    | none => exact ⟨Nat.pow_pos (by decide),Nat.one_lt_two_pow (by decide)⟩
    | some f => exact h f rfl
  have zh:Sz 10 (1 / 2:Rat):=⟨by decide +kernel,by decide +kernel⟩
  intro t
  unfold endF
  split
  . intro z; cases z
  . split
    . intro z; cases z; exact (Sz.add (g0 za) zT).mono (by decide)
    . split
      . intro z; cases z; exact (Sz.add (g0 zb) zT).mono (by decide)
      . intro z; cases z; exact (Sz.mul (Sz.add (Sz.add (g0 za) (g0 zb)) zT) zh).mono (by decide)
inductive spEnBy_I (vs:List V) (H:Hp) (Q:VK) (EE:XK):Prop
  | mk (pr d:Addr) (vt:V) (a b:Str) (u:V) (T:Rat) (kd:List (Key×V)) (oa ob tk:Option Rat) (va vb:V) (h0':vs = [.ref pr,.ref d,vt]) (h1':H pr = some (.tup [.str a,.str b,u])) (h2':FrQ H u T) (h3':H d = some (.dK kd)) (h4':valV kd (Sum.inr a) = some va) (h5':OptQ H va oa) (h6':valV kd (Sum.inr b) = some vb) (h7':OptQ H vb ob) (h8':OptQ H vt tk) (h9':0 < T) (h10':Sz 400 T) (h11':(∀ f,oa = some f -> Sz 400 f)) (h12':(∀ f,ob = some f -> Sz 400 f)) (h13':(∀ f,tk = some f -> Sz 400 f)) (h14':∀ v H',EndQ H' v (endT (endF a b oa ob T) tk) -> Same H H' -> Q v H'):spEnBy_I vs H Q EE
noncomputable def spEnBy:Sp:=fun vs H Q EE => spEnBy_I vs H Q EE
inductive spEnOf_I (w:World) (vs:List V) (H:Hp) (Q:VK) (EE:XK):Prop
  | mk (l:Addr) (n:List TRun) (lp:Addr) (ps:List (Key×Rat)) (vt:V) (ts:List (Key×Rat)) (D M:Nat) (U:List Str) (k:Nat) (r:TRun) (h0':vs = [.ref l,.ref lp,.int (k:Int),vt]) (h1':NetIn H l (kn n) D M) (h2':PsIn H lp ps D M) (h3':TsIn H vt ts) (h4':Room8 D M) (h5':U.length < 64) (h6':(∀ x ∈ names n,x ∈ U)) (h7':n[k]? = some r) (h8':(∀ t,Bd D (M * 1000) t -> Sz 400 t)) (h9':(∀ x ∈ ts,Sz 400 x.2)) (h10':∀ v H' F,Same H H' -> FOrd (kn n) (aget (lst ps)) (tkOf ts) F -> (∀ p f,momOf F p = some f -> Sz 400 f) -> EndQ H' v (endT (endF r.1 r.2.1 (momOf F (Sum.inr r.1)) (momOf F (Sum.inr r.2.1)) r.2.2) (tkOf ts k)) -> Q v H'):spEnOf_I w vs H Q EE
noncomputable def spEnOf (w:World):Sp:=fun vs H Q EE => spEnOf_I w vs H Q EE
inductive spCell_I (K:PySem.W.Frag) (vs:List V) (H:Hp) (Q:VK) (EE:XK):Prop
  | mk (a:Addr) (ns:List Int) (k:Int) (h0':vs = [.ref a,.int k]) (h1':SqL K H a (ns.map V.int)) (h2':0 <= k) (h3':∀ r,Q (.int r) H):spCell_I K vs H Q EE
noncomputable def spCell (K:PySem.W.Frag):Sp:=fun vs H Q EE => spCell_I K vs H Q EE
inductive spMixed24_I (vs:List V) (H:Hp) (Q:VK) (EE:XK):Prop
  | mk (c k:Int) (h0':vs = [.int c,.int k]) (h1':0 <= k) (h2':k <= 1000) (h3':∀ r,Q (.int r) H):spMixed24_I vs H Q EE
noncomputable def spMixed24:Sp:=fun vs H Q EE => spMixed24_I vs H Q EE
inductive spNum24_I (K:PySem.W.Frag) (vs:List V) (H:Hp) (Q:VK) (EE:XK):Prop
  | mk (a:Addr) (ns:List Int) (k:Int) (h0':vs = [.ref a,.int k]) (h1':SqL K H a (ns.map V.int)) (h2':0 <= k) (h3':k <= 1000) (h4':∀ r,Q (.int r) H):spNum24_I K vs H Q EE
noncomputable def spNum24 (K:PySem.W.Frag):Sp:=fun vs H Q EE => spNum24_I K vs H Q EE
inductive spLowest_I (vs:List V) (H:Hp) (Q:VK) (EE:XK):Prop
  | mk (t b:Int) (h0':vs = [.int t,.int b]) (h1':0 < b) (h2':Sm 8000 t) (h3':Sm 8000 b) (h4':∀ p,H p = none -> Q (.ref p) (upd H p (.tup [.int (lowT t b),.int (lowB t b)]))):spLowest_I vs H Q EE
noncomputable def spLowest:Sp:=fun vs H Q EE => spLowest_I vs H Q EE
theorem at6:∀ i:Int,0 <= i -> i < 6 -> ∃ t:Str,atI [V.str "",V.str ".x",V.str ".ab.c",V.str ".zzzzzzzz.y.a",V.str "",V.str ""] i = some (.str t) /\ t.length <= 20:=by
  intro i h0 h1
  have:i = 0 ∨ i = 1 ∨ i = 2 ∨ i = 3 ∨ i = 4 ∨ i = 5:=by omega
  rcases this with rfl | rfl | rfl | rfl | rfl | rfl <;> exact ⟨_,rfl,by decide +kernel⟩
inductive spPosts24_I (vs:List V) (H:Hp) (Q:VK) (EE:XK):Prop
  | mk (c:Int) (h0':vs = [.int c]) (h1':∀ l H' (U:List Str),H l = none -> Same H H' -> H' l = some (.lst (U.map V.str)) -> 2 <= U.length -> U.length <= 8 -> Q (.ref l) H'):spPosts24_I vs H Q EE
noncomputable def spPosts24:Sp:=fun vs H Q EE => spPosts24_I vs H Q EE
theorem at4 {x0 x1 x2 x3:Int} (P:Int -> Prop) (h0:P x0) (h1:P x1) (h2:P x2) (h3:P x3) (i:Int) (l:0 <= i) (u:i < 4):∃ t:Int,atI [V.int x0,V.int x1,V.int x2,V.int x3] i = some (.int t) /\ P t:=by
  have:i = 0 ∨ i = 1 ∨ i = 2 ∨ i = 3:=by omega
  rcases this with rfl | rfl | rfl | rfl
  . exact ⟨_,rfl,h0⟩
  . exact ⟨_,rfl,h1⟩
  . exact ⟨_,rfl,h2⟩
  . exact ⟨_,rfl,h3⟩
inductive spTime24_I (vs:List V) (H:Hp) (Q:VK) (EE:XK):Prop
  | mk (c:Int) (h0':vs = [.int c]) (h1':∀ r H',Same H H' -> 1 <= r -> r <= 10 ^ 30 -> Q (.int r) H'):spTime24_I vs H Q EE
noncomputable def spTime24:Sp:=fun vs H Q EE => spTime24_I vs H Q EE
inductive spHere24_I (K:PySem.W.Frag) (vs:List V) (H:Hp) (Q:VK) (EE:XK):Prop
  | mk (a:Addr) (ns:List Int) (h0':vs = [.ref a,.int 23]) (h1':SqL K H a (ns.map V.int)) (h2':ns.length <= 63) (h3':∀ dd H' U u rs ps ts ln lr lp lt,H dd = none -> Same H H' -> HereI U u rs ps ts 20 -> HereQ H' dd U u rs ps ts ln lr lp lt -> Q (.ref dd) H'):spHere24_I K vs H Q EE
noncomputable def spHere24 (K:PySem.W.Frag):Sp:=fun vs H Q EE => spHere24_I K vs H Q EE
structure HereG (H H':Hp) (dd:Addr) (U:List Str) (u:Int) (rs:List (Int×Int×Int)) (ps ts:List (Int×Int)) (ln lr lp lt:Addr) (m:Nat):Prop where
  i:HereI U u rs ps ts m
  q:HereQ H' dd U u rs ps ts ln lr lp lt
  s:Same H H'
  f1:H lr = none
  f2:H lp = none
  f3:H lt = none
  n1:lr ≠ lp
  n2:lr ≠ lt
  n3:lp ≠ lt
  m:1 <= m -> rs ≠ []
theorem snoc_ok {α:Type} {P:α -> Prop} {l:List α} {x:α} (h:∀ r ∈ l,P r) (hx:P x):∀ r ∈ l ++ [x],P r:=fun r hr => (List.mem_append.mp hr).elim (h r) fun z => by rw [List.mem_singleton.mp z]; exact hx
theorem lq_snoc {β:Type} {R:Hp -> V -> β -> Prop} {G:Hp} {l:Addr} {vs:List V} {ds:List β} {v:V} {b:β} (hR:∀ {H H' v b},R H v b -> TK H H' -> R H' v b) (h:G l = some (.lst vs)) (p:Paired (R G) vs ds) (r:R G v b):LQ R (upd G l (.lst (vs ++ [v]))) l (ds ++ [b]) :=
  ⟨_,upd_same,Pd.snoc (Pd.imp p fun v b f => hR f (TK.lst h)) (hR r (TK.lst h))⟩
theorem lq_not {β:Type} {R:Hp -> V -> β -> Prop} {G:Hp} {l k:Addr} {vs xs:List V} {ds:List β} (hR:∀ {H H' v b},R H v b -> TK H H' -> R H' v b) (h:G k = some (.lst vs)) (hne:l ≠ k) (q:LQ R G l ds):LQ R (upd G k (.lst xs)) l ds :=
  let ⟨ws,e,p⟩:=q; ⟨ws,upd_not hne e,Pd.imp p fun v b f => hR f (TK.lst h)⟩
section
variable {H G:Hp} {dd:Addr} {U:List Str} {u:Int} {rs:List (Int×Int×Int)} {ps ts:List (Int×Int)} {ln lr lp lt:Addr} {m:Nat}
theorem HereG.sm {G':Hp} (h:HereG H G dd U u rs ps ts ln lr lp lt m) (s:Same G G'):HereG H G' dd U u rs ps ts ln lr lp lt m:=⟨h.i,h.q.sm s,h.s.trans s,h.f1,h.f2,h.f3,h.n1,h.n2,h.n3,h.m⟩
theorem ne_dl {p q:Addr} {kv:List (Key×V)} {xs:List V} (h1:G p = some (.dK kv)) (h2:G q = some (.lst xs)):p ≠ q:=fun e => by rw [e,h2] at h1; cases h1
theorem HereG.run {vs:List V} {p:Addr} {x:Int×Int×Int} (h:HereG H G dd U u rs ps ts ln lr lp lt m) (hv:G lr = some (.lst vs)) (pv:Paired (TriQ G) vs rs) (hx:TriQ G (.ref p) x) (ok:0 <= x.1 /\ x.1 < U.length /\ 0 <= x.2.1 /\ x.2.1 < U.length /\ 1 <= x.2.2 /\ x.2.2 <= 10 ^ 30) (hl:ln ≠ lr):HereG H (upd G lr (.lst (vs ++ [.ref p]))) dd U u (rs ++ [x]) ps ts ln lr lp lt (m + 1) :=
  ⟨⟨h.i.u0,h.i.u1,h.i.n2,h.i.n8,snoc_ok h.i.rok ok,h.i.pok,h.i.tok,by have:=h.i.len; rw [List.length_append]; show _ + 1 + _ + _ <= _; omega⟩,
   ⟨upd_not (ne_dl h.q.d hv) h.q.d,upd_not hl h.q.nm,lq_snoc TriQ.tk hv pv hx,lq_not PaiQ.tk hv (Ne.symm h.n1) h.q.pq,lq_not PaiQ.tk hv (Ne.symm h.n2) h.q.tq⟩,
   Kp.upd.sm h.s h.f1,h.f1,h.f2,h.f3,h.n1,h.n2,h.n3,fun _ z => by simp at z⟩
theorem HereG.pus {vs:List V} {p:Addr} {x:Int×Int} (h:HereG H G dd U u rs ps ts ln lr lp lt m) (hv:G lp = some (.lst vs)) (pv:Paired (PaiQ G) vs ps) (hx:PaiQ G (.ref p) x) (ok:0 <= x.1 /\ x.1 < U.length /\ 0 <= x.2 /\ x.2 <= 10 ^ 30) (hl:ln ≠ lp) (hr:rs ≠ []):HereG H (upd G lp (.lst (vs ++ [.ref p]))) dd U u rs (ps ++ [x]) ts ln lr lp lt (m + 1) :=
  ⟨⟨h.i.u0,h.i.u1,h.i.n2,h.i.n8,h.i.rok,snoc_ok h.i.pok ok,h.i.tok,by have:=h.i.len; rw [List.length_append]; show _ + (_ + 1) + _ <= _; omega⟩,
   ⟨upd_not (ne_dl h.q.d hv) h.q.d,upd_not hl h.q.nm,lq_not TriQ.tk hv h.n1 h.q.rq,lq_snoc PaiQ.tk hv pv hx,lq_not PaiQ.tk hv (Ne.symm h.n3) h.q.tq⟩,
   Kp.upd.sm h.s h.f2,h.f1,h.f2,h.f3,h.n1,h.n2,h.n3,fun _ => hr⟩
theorem HereG.tak {vs:List V} {p:Addr} {x:Int×Int} (h:HereG H G dd U u rs ps ts ln lr lp lt m) (hv:G lt = some (.lst vs)) (pv:Paired (PaiQ G) vs ts) (hx:PaiQ G (.ref p) x) (ok:0 <= x.1 /\ 0 <= x.2 /\ x.2 <= 10 ^ 30) (hl:ln ≠ lt) (hr:rs ≠ []):HereG H (upd G lt (.lst (vs ++ [.ref p]))) dd U u rs ps (ts ++ [x]) ln lr lp lt (m + 1) :=
  ⟨⟨h.i.u0,h.i.u1,h.i.n2,h.i.n8,h.i.rok,h.i.pok,snoc_ok h.i.tok ok,by have:=h.i.len; rw [List.length_append]; show _ + _ + (_ + 1) <= _; omega⟩,
   ⟨upd_not (ne_dl h.q.d hv) h.q.d,upd_not hl h.q.nm,lq_not TriQ.tk hv h.n2 h.q.rq,lq_not PaiQ.tk hv h.n3 h.q.pq,lq_snoc PaiQ.tk hv pv hx⟩,
   Kp.upd.sm h.s h.f3,h.f1,h.f2,h.f3,h.n1,h.n2,h.n3,fun _ => hr⟩
end
inductive spNet24_I (vs:List V) (H:Hp) (Q:VK) (EE:XK):Prop
  | mk (dd:Addr) (U:List Str) (u:Int) (rs:List (Int×Int×Int)) (ps ts:List (Int×Int)) (ln lr lp lt:Addr) (h0':vs = [.ref dd]) (h1':HereI U u rs ps ts 20) (h2':HereQ H dd U u rs ps ts ln lr lp lt) (h3':∀ p H' (n:List TRun),H p = none -> Same H H' -> LQ RunQ H' p (kn n) -> n.length = rs.length -> (∀ r ∈ n,r.1 ∈ U /\ r.2.1 ∈ U /\ UQ u r.2.2 /\ 0 < r.2.2) -> Q (.ref p) H'):spNet24_I vs H Q EE
noncomputable def spNet24:Sp:=fun vs H Q EE => spNet24_I vs H Q EE
theorem sm_u {z:Int} (h0:0 <= z) (h1:z <= 10 ^ 31):Sm 8000 z:=Nat.lt_of_le_of_lt (show z.natAbs <= 10 ^ 31 by omega) (by decide)
inductive spPushes24_I (vs:List V) (H:Hp) (Q:VK) (EE:XK):Prop
  | mk (dd:Addr) (U:List Str) (u:Int) (rs:List (Int×Int×Int)) (ps ts:List (Int×Int)) (ln lr lp lt:Addr) (h0':vs = [.ref dd]) (h1':HereI U u rs ps ts 20) (h2':HereQ H dd U u rs ps ts ln lr lp lt) (h3':∀ p H' (ps':List (Int×Int)),Same H H' -> LQ PaiQ H' p ps' -> ps'.length <= ps.length -> (∀ x ∈ ps',x ∈ ps) -> Q (.ref p) H'):spPushes24_I vs H Q EE
noncomputable def spPushes24:Sp:=fun vs H Q EE => spPushes24_I vs H Q EE
inductive spHanded24_I (vs:List V) (H:Hp) (Q:VK) (EE:XK):Prop
  | mk (dd:Addr) (U:List Str) (u:Int) (rs:List (Int×Int×Int)) (ps ts:List (Int×Int)) (ln lr lp lt:Addr) (h0':vs = [.ref dd]) (h1':HereI U u rs ps ts 20) (h2':HereQ H dd U u rs ps ts ln lr lp lt) (h3':∀ p H' l1 l2 (qs zs:List (Key×Rat)),Same H H' -> H' p = some (.tup [.ref l1,.ref l2]) -> LQ KvQ H' l1 qs -> LQ KvQ H' l2 zs -> qs.length <= 20 -> zs.length <= 20 -> (∀ x ∈ qs,UQ u x.2) -> (∀ x ∈ zs,UQ u x.2) -> Q (.ref p) H'):spHanded24_I vs H Q EE
noncomputable def spHanded24:Sp:=fun vs H Q EE => spHanded24_I vs H Q EE
inductive spLessQ2_I (vs:List V) (H:Hp) (Q:VK) (EE:XK):Prop
  | mk (x y:V) (q r:Rat) (h0':vs = [x,y]) (h1':FrQ H x q) (h2':FrQ H y r) (h3':Sz 8000 q) (h4':Sz 8000 r) (h5':Q (.bl (decide (q < r))) H):spLessQ2_I vs H Q EE
noncomputable def spLessQ2:Sp:=fun vs H Q EE => spLessQ2_I vs H Q EE
theorem at0 (a:V) (xs:List V):atI (a :: xs) 0 = some a:=show atI (a :: xs) ((0:Nat):Int) = some a from atI_nat rfl
noncomputable def endIx:RunEnd -> Int
  | .stands => 0
  | .swept _ _ => 2
  | .met _ _ => 1
  | .taken _ => 1
noncomputable def endNm:RunEnd -> Str
  | .stands => "stands"
  | .swept _ _ => "swept"
  | .met _ _ => "met"
  | .taken _ => "taken"
theorem end_nm {H:Hp} {v:V} {e:RunEnd} (h:EndQ H v e):∃ p xs,v = .ref p /\ H p = some (.tup (.str (endNm e) :: xs)):=by
  cases e with
  | stands => obtain ⟨p,e,h⟩:=h; exact ⟨p,_,e,h⟩
  | swept s q => obtain ⟨p,u,e,h,f⟩:=h; exact ⟨p,_,e,h⟩
  | met q s => obtain ⟨p,u,w,e,h,f,g⟩:=h; exact ⟨p,_,e,h⟩
  | taken q => obtain ⟨p,u,e,h,f⟩:=h; exact ⟨p,_,e,h⟩
theorem end_ix (e:RunEnd):valV endK (Sum.inr (endNm e)) = some (.int (endIx e)):=by cases e <;> with_unfolding_all rfl
inductive spEndAt_I (vs:List V) (H:Hp) (Q:VK) (EE:XK):Prop
  | mk (v:V) (e:RunEnd) (h0':vs = [v]) (h1':EndQ H v e) (h2':∀ H',Same H H' -> Q (.int (endIx e)) H'):spEndAt_I vs H Q EE
noncomputable def spEndAt:Sp:=fun vs H Q EE => spEndAt_I vs H Q EE
inductive spWithin_I (vs:List V) (H:Hp) (Q:VK) (EE:XK):Prop
  | mk (v w:V) (i o:Option (Rat×Rat)) (h0':vs = [v,w]) (h1':LeftQ H v i) (h2':LeftQ H w o) (h3':(∀ x,i = some x -> Sz 3000 x.1 /\ Sz 3000 x.2)) (h4':(∀ x,o = some x -> Sz 3000 x.1 /\ Sz 3000 x.2)) (h5':(∀ x,i = some x -> x.1 < x.2 /\ ∃ y,o = some y /\ y.1 <= x.1 /\ x.2 <= y.2)) (h6':Q (.bl true) H):spWithin_I vs H Q EE
noncomputable def spWithin:Sp:=fun vs H Q EE => spWithin_I vs H Q EE
inductive spSwept23_I (vs:List V) (H:Hp) (Q:VK) (EE:XK):Prop
  | mk (l:Addr) (n:List TRun) (d:Addr) (kd:List (Key×V)) (k:Nat) (v:V) (p:Str) (t:Rat) (r:TRun) (f:Rat) (sq:Str) (vp vq:V) (h0':vs = [.ref l,.ref d,.int (k:Int),v]) (h1':LQ RunQ H l (kn n)) (h2':H d = some (.dK kd)) (h3':EndQ H v (.swept p t)) (h4':n[k]? = some r) (h5':valV kd (Sum.inr p) = some vp) (h6':FrQ H vp f) (h7':valV kd (Sum.inr sq) = some vq) (h8':FrQ H vq t) (h9':t = f + r.2.2) (h10':((p = r.1 /\ sq = r.2.1 /\ r.1 ≠ r.2.1) ∨ (p = r.2.1 /\ sq = r.1))) (h11':Sz 400 f) (h12':Sz 400 r.2.2) (h13':∀ H',Same H H' -> Q (.bl true) H'):spSwept23_I vs H Q EE
noncomputable def spSwept23:Sp:=fun vs H Q EE => spSwept23_I vs H Q EE
theorem met_sz {a b:Str} {oa ob tk:Option Rat} {T:Rat} (hT:T ≠ 0) (zT:Sz 400 T) (za:∀ f,oa = some f -> Sz 400 f) (zb:∀ f,ob = some f -> Sz 400 f):∀ t s,endT (endF a b oa ob T) tk = .met t s -> Sz 3000 s:=by
  have g0:∀ {o:Option Rat},(∀ f,o = some f -> Sz 400 f) -> Sz 400 (o.getD 0):=fun {o} h => by
    cases o with
    | none => exact ⟨Nat.pow_pos (by decide),Nat.one_lt_two_pow (by decide)⟩
    | some f => exact h f rfl
  have zh:Sz 10 (1 / 2:Rat):=⟨by decide +kernel,by decide +kernel⟩
  have key:∀ t s,endF a b oa ob T = .met t s -> Sz 3000 s:=by
    intro t s
    unfold endF
    split
    . intro z; cases z
    . split
      . intro z; cases z
      . split
        . intro z; cases z
        . intro z; cases z; exact (Sz.div (Sz.sub (Sz.mul (Sz.add (Sz.add (g0 za) (g0 zb)) zT) zh) (g0 za)) zT hT).mono (by decide)
  intro t s h
  cases tk with
  | none => exact key t s h
  | some u =>
    replace h:(if goneB u (endAt (endF a b oa ob T)) = true then RunEnd.taken u else endF a b oa ob T) = .met t s:=h
    split at h
    . cases h
    . exact key t s h
theorem stn_sz {oa ob tk:Option Rat} {T m:Rat} (hT:T ≠ 0) (zT:Sz 400 T) (zm:Sz 400 m) (za:∀ f,oa = some f -> Sz 400 f) (zb:∀ f,ob = some f -> Sz 400 f):∀ x,stn oa ob tk T m = some x -> Sz 3000 x.1 /\ Sz 3000 x.2:=by
  intro x
  unfold stn
  split
  . intro z; cases z
  . split
    . intro z
      cases z
      exact ⟨(shr_sz hT zT zm za).mono (by decide),(Sz.sub (show Sz 10 1 from ⟨by decide,by decide⟩) (shr_sz hT zT zm zb)).mono (by decide)⟩
    . intro z; cases z
theorem end_fr {H:Hp} {v:V} {e:RunEnd} {t:Rat} (h:EndQ H v e) (ht:endAt e = some t):∃ p xs u,v = .ref p /\ H p = some (.tup xs) /\ atI xs (endIx e) = some u /\ FrQ H u t:=by
  cases e with
  | stands => cases ht
  | swept s q => obtain ⟨p,u,e,h,f⟩:=h; cases ht; exact ⟨p,_,u,e,h,rfl,f⟩
  | met q s => obtain ⟨p,u,w,e,h,f,g⟩:=h; cases ht; exact ⟨p,_,u,e,h,rfl,f⟩
  | taken q => obtain ⟨p,u,e,h,f⟩:=h; cases ht; exact ⟨p,_,u,e,h,rfl,f⟩
theorem end_at_sz {a b:Str} {oa ob tk:Option Rat} {T:Rat} (zT:Sz 400 T) (za:∀ f,oa = some f -> Sz 400 f) (zb:∀ f,ob = some f -> Sz 400 f) (zt:∀ f,tk = some f -> Sz 400 f):∀ t,endAt (endT (endF a b oa ob T) tk) = some t -> Sz 2000 t:=by
  intro t h
  cases tk with
  | none => exact end_sz zT za zb t h
  | some u =>
    replace h:endAt (if goneB u (endAt (endF a b oa ob T)) = true then .taken u else endF a b oa ob T) = some t:=h
    split at h
    . have e:u = t:=Option.some.inj h
      rw [← e]
      exact (zt u rfl).mono (by decide)
    . exact end_sz zT za zb t h
theorem end_stands {e:RunEnd}:endNm e = "stands" ↔ e = .stands:=by
  cases e with
  | stands => exact ⟨fun _ => rfl,fun _ => rfl⟩
  | swept s t => exact ⟨fun h => absurd h (show ¬ (Str.ofString "swept" = Str.ofString "stands") by decide +kernel),fun h => (by cases h)⟩
  | met s t => exact ⟨fun h => absurd h (show ¬ (Str.ofString "met" = Str.ofString "stands") by decide +kernel),fun h => (by cases h)⟩
  | taken t => exact ⟨fun h => absurd h (show ¬ (Str.ofString "taken" = Str.ofString "stands") by decide +kernel),fun h => (by cases h)⟩
theorem end_met {e:RunEnd} (h:endNm e = "met"):∃ t s,e = .met t s:=by
  cases e with
  | stands => exact absurd h (show ¬ (Str.ofString "stands" = Str.ofString "met") by decide +kernel)
  | swept s t => exact absurd h (show ¬ (Str.ofString "swept" = Str.ofString "met") by decide +kernel)
  | met t s => exact ⟨t,s,rfl⟩
  | taken t => exact absurd h (show ¬ (Str.ofString "taken" = Str.ofString "met") by decide +kernel)
theorem end_swept {e:RunEnd} (h:endNm e = "swept"):∃ p t,e = .swept p t:=by
  cases e with
  | stands => exact absurd h (show ¬ (Str.ofString "stands" = Str.ofString "swept") by decide +kernel)
  | swept s t => exact ⟨s,t,rfl⟩
  | met t s => exact absurd h (show ¬ (Str.ofString "met" = Str.ofString "swept") by decide +kernel)
  | taken t => exact absurd h (show ¬ (Str.ofString "taken" = Str.ofString "swept") by decide +kernel)
inductive spRunR_I (w:World) (vs:List V) (H:Hp) (Q:VK) (EE:XK):Prop
  | mk (l:Addr) (n:List TRun) (lp:Addr) (ps:List (Key×Rat)) (lt:Addr) (ts:List (Key×Rat)) (D M:Nat) (U:List Str) (k:Nat) (r:TRun) (lm:Addr) (ym:List V) (ms:List Rat) (d:Addr) (kd:List (Key×V)) (F0:AL Key (EntD Key)) (h0':vs = [.ref l,.ref lp,.ref lt,.int (k:Int),.ref lm,.ref d]) (h1':NetIn H l (kn n) D M) (h2':PsIn H lp ps D M) (h3':TsIn H (.ref lt) ts) (h4':Room8 D M) (h5':U.length < 64) (h6':(∀ x ∈ names n,x ∈ U)) (h7':n[k]? = some r) (h8':(∀ t,Bd D (M * 1000) t -> Sz 400 t)) (h9':(∀ x ∈ ts,Sz 400 x.2)) (h10':H lm = some (.lst ym)) (h11':Paired (FrQ H) ym ms) (h12':ms.Pairwise (· <= ·)) (h13':(∀ m ∈ ms,Sz 400 m)) (h14':H d = some (.dK kd)) (h15':(∀ y ∈ names n,∃ v,valV kd (Sum.inr y) = some v /\ OptQ H v (momOf F0 (Sum.inr y)))) (h16':FOrd (kn n) (aget (lst ps)) (tkOf ts) F0) (h17':∀ H',Same H H' -> Q (.bl true) H'):spRunR_I w vs H Q EE
noncomputable def spRunR (w:World):Sp:=fun vs H Q EE => spRunR_I w vs H Q EE
inductive spLaw_I (K:PySem.W.Frag) (vs:List V) (H:Hp) (Q:VK) (EE:XK):Prop
  | mk (a:Addr) (ns:List Int) (h0':vs = [.ref a]) (h1':SqL K H a (ns.map V.int)) (h2':ns.length <= 63) (h3':∀ H',Q (.bl true) H'):spLaw_I K vs H Q EE
noncomputable def spLaw (K:PySem.W.Frag):Sp:=fun vs H Q EE => spLaw_I K vs H Q EE
section
variable {P:Program} {w:World} {K:PySem.W.Frag} {mg:Str -> Option Value} {base:Heap} {k:Nat}
theorem ok_is_whole (T:Bl mg) (d:Df K mg "is_whole" s_is_whole ["thing"]  ):Okf P w K mg base (k + 1) "is_whole" ["thing"] (spWhole K):=by
  refine Okf.of d sc_is_whole (fun vs H Q E h => ?_) (fun f cdv A outer s H vs Q E hr h => ?_)
  . obtain ⟨x,t,b,c,rfl,_⟩:=h
    rfl
  . obtain ⟨x,t,b,c,rfl,ty,e1,e2,q⟩:=h
    refine ⟨_,(@pss_one _ _ _ (@ps_ret _ _ _ _ (@pe_and _ _ _ _ _ _ _ (@pe_callB _ _ _ _ _ _ _ _ _ (call_isTy (T:="int")) rfl T.z_isinstance bt_isinstance (@pa_cons _ _ _ _ _ (pv 0) (@pa_cons _ _ _ _ _ (@pe_bltn _ _ (v:=.ty "int") _ _ rfl T.z_int bt_int rfl (by decide) (by decide)) (@pa_nil _) (by rfl)) (by rfl)) (by decide) (by decide) (by rfl) (by rfl)) (@pe_one _ _ _ _ _ (@pe_not _ _ _ _ (@pe_callB _ _ _ _ _ _ _ _ _ (call_isTy (T:="bool")) rfl T.z_isinstance bt_isinstance (@pa_cons _ _ _ _ _ (pv 0) (@pa_cons _ _ _ _ _ (@pe_bltn _ _ (v:=.ty "bool") _ _ rfl T.z_bool bt_bool rfl (by decide) (by decide)) (@pa_nil _) (by rfl)) (by rfl)) (by decide) (by decide) (by rfl) (by rfl))))))),?_⟩
    try dsimp only [cxK_nox,cxK_of]
    walk_at "go"
    refine r_isTy ty e1 ?_
    cases b
    . walk_at "go"
      exact q
    . walk_at "go"
      refine r_isTy ty e2 ?_
      walk_at "go"
      exact q
theorem ok_common_divisor (T:Bl mg) (d:Df K mg "common_divisor" s_common_divisor ["one","other"]  ):Okf P w K mg base (k + 1) "common_divisor" ["one","other"] spGcd:=by
  refine Okf.of d sc_common_divisor (fun vs H Q E h => ?_) (fun f cdv A outer s H vs Q E hr h => ?_)
  . obtain ⟨a,b,rfl,_⟩:=h
    rfl
  . obtain ⟨a,b,rfl,q⟩:=h
    refine ⟨_,(@pss_cons _ _ _ _ _ (@ps_while _ _ _ _ _ _ PassesOwn.never (@pt_cmpR _ _ _ _ _ _ _ _ (op_neA hr.units) (pv 1) (@pe_int _ _ _ _) (nomark _)) (@pss_cons _ _ _ _ _ (@ps_set _ _ (i:=2) _ _ _ _ sc_common_divisor.nd rfl (by first | exact Or.inl rfl | exact Or.inr rfl) (@pe_op _ _ _ _ _ _ _ _ op_modN (pv 0) (pv 1)) (by rfl) (by first | exact .inl rfl | exact .inr rfl | assumption)) (@pss_cons _ _ _ _ _ (@ps_set _ _ (i:=0) _ _ _ _ sc_common_divisor.nd rfl (by first | exact Or.inl rfl | exact Or.inr rfl) (pv 1) (by rfl) (by first | exact .inl rfl | exact .inr rfl | assumption)) (@pss_one _ _ _ (@ps_set _ _ (i:=1) _ _ _ _ sc_common_divisor.nd rfl (by first | exact Or.inl rfl | exact Or.inr rfl) (pv 2) (by rfl) (by first | exact .inl rfl | exact .inr rfl | assumption)))))) (@pss_one _ _ _ (@ps_ret _ _ _ _ (@pe_callB _ _ _ _ _ _ _ _ _ c_abs rfl T.z_abs bt_abs (@pa_cons _ _ _ _ _ (pv 0) (@pa_nil _) (by rfl)) (by decide) (by decide) (by rfl) (by rfl))))),?_⟩
    try dsimp only [cxK_nox,cxK_of]
    walk_at "go"
    refine while_by (fun σ H' => ∃ (one other:Int) (o:Option V),σ = [some (.int one),some (.int other),o] /\ H' = H /\ Int.gcd one other = Int.gcd a b)
      (fun σ _ => match σ with | [_,some (.int z),_] => z.natAbs | _ => 0) ⟨_,_,_,rfl,rfl,rfl⟩ ?_ ?_
    . rintro σ H' ⟨one,other,o,rfl,rfl,hg⟩
      walk_at "go"
      refine i_d (fun c => ?_) (fun c => ?_)
      . subst c
        walk_at "go"
        rw [Int.gcd_zero_right] at hg
        have e:(if one < 0 then -one else one) = (Int.gcd a b:Int):=by rw [← hg]; split <;> omega
        rw [e]
        exact q
      . walk_at "go"
        refine ⟨⟨_,_,_,rfl,rfl,by rw [gcd_stepN c]; exact hg⟩,?_⟩
        show (one.fmod other).natAbs < other.natAbs
        exact fmod_lt c
    . intro σ H Q Q' hQ h
      obtain ⟨v,e1,h⟩:=h
      rcases h with ⟨e2,b',e3,q'⟩ | ⟨d,e,e2,e3,e4,e5,b',e6,q'⟩
      . exact ⟨v,e1,.inl ⟨e2,b',e3,hQ _ _ q'⟩⟩
      . exact ⟨v,e1,.inr ⟨d,e,e2,e3,e4,e5,b',e6,hQ _ _ q'⟩⟩
theorem ok_fraction (T:Bl mg) (d:DfD K mg "fraction" s_fraction ["top","bottom"] [.int 1] ) (o_common_divisor:Okf P w K mg base k "common_divisor" ["one","other"] spGcd) (o_is_whole:Okf P w K mg base k "is_whole" ["thing"] (spWhole K)):OkfD P w K mg base (k + 1) "fraction" ["top","bottom"] [.int 1] (spFraction K):=by
  refine OkfD.of d sc_fraction (fun vs H Q E h => ?_) (fun f cdv A outer s H vs Q E hr h => ?_)
  . obtain ⟨t,b,rfl,_⟩:=h
    rfl
  . obtain ⟨t,b,rfl,hb,hsb,q⟩:=h
    refine ⟨_,(@pss_cons _ _ _ _ _ (@ps_if _ _ _ _ _ _ _ _ (@PW.pt _ _ _ (@pw_or _ _ _ _ _ _ _ (@pt_not _ _ _ _ (@pt_val _ _ _ (@pe_callO _ _ _ _ _ _ _ _ _ _ o_is_whole hr rfl (@pa_cons _ _ _ _ _ (pv 0) (@pa_nil _) (by rfl)) (by decide) (by rfl) (by rfl)) (by intro _; rfl))) (@pw_or1 _ _ _ _ (@pt_not _ _ _ _ (@pt_val _ _ _ (@pe_callO _ _ _ _ _ _ _ _ _ _ o_is_whole hr rfl (@pa_cons _ _ _ _ _ (pv 1) (@pa_nil _) (by rfl)) (by decide) (by rfl) (by rfl)) (by intro _; rfl)))))) (@pss_one _ _ _ (@ps_never _ _)) (@pss_nil _)) (@pss_cons _ _ _ _ _ (@ps_if _ _ _ _ _ _ _ _ (@pt_cmpR _ _ _ _ _ _ _ _ (op_eqA hr.units) (pv 1) (@pe_int _ _ _ _) (nomark _)) (@pss_one _ _ _ (@ps_never _ _)) (@pss_nil _)) (@pss_cons _ _ _ _ _ (@ps_set _ _ (i:=2) _ _ _ _ sc_fraction.nd rfl (by first | exact Or.inl rfl | exact Or.inr rfl) (@pe_callO _ _ _ _ _ _ _ _ _ _ o_common_divisor hr rfl (@pa_cons _ _ _ _ _ (pv 0) (@pa_cons _ _ _ _ _ (pv 1) (@pa_nil _) (by rfl)) (by rfl)) (by decide) (by rfl) (by rfl)) (by rfl) (by first | exact .inl rfl | exact .inr rfl | assumption)) (@pss_cons _ _ _ _ _ (@ps_if _ _ _ _ _ _ _ _ (@pt_cmpR _ _ _ _ _ _ _ _ op_lt (pv 1) (@pe_int _ _ _ _) (nomark _)) (@pss_one _ _ _ (@ps_set _ _ (i:=2) _ _ _ _ sc_fraction.nd rfl (by first | exact Or.inl rfl | exact Or.inr rfl) (@pe_un _ _ _ _ _ _ un_neg (pv 2)) (by rfl) (by first | exact .inl rfl | exact .inr rfl | assumption))) (@pss_nil _)) (@pss_one _ _ _ (@ps_ret _ _ _ _ (@pe_tup _ _ _ _ _ (@pa_cons _ _ _ _ _ (@pe_op _ _ _ _ _ _ _ _ op_fdivB (pv 0) (pv 2)) (@pa_cons _ _ _ _ _ (@pe_op _ _ _ _ _ _ _ _ op_fdivB (pv 1) (pv 2)) (@pa_nil _) (by rfl)) (by rfl))))))))),?_⟩
    try dsimp only [cxK_nox,cxK_of]
    walk_at "go"
    refine ⟨_,_,_,_,rfl,.int t,kit_int_int,kit_int_bool,?_⟩
    walk_at "go"
    refine i_bT rfl ?_
    walk_at "go"
    refine ⟨_,_,_,_,rfl,.int b,kit_int_int,kit_int_bool,?_⟩
    walk_at "go"
    refine i_bT rfl ?_
    walk_at "go"
    refine ⟨t,b,rfl,?_⟩
    walk_at "go"
    have hgb:(sg t b).natAbs <= b.natAbs:=by
      rw [sg_natAbs]
      exact Nat.le_of_dvd (by omega) (Int.gcd_dvd_natAbs_right t b)
    have hc:∀ z,CDivB z (sg t b):=fun _ => ⟨sg_ne hb,Sm.le hgb hsb⟩
    refine i_d (fun c => ?_) (fun c => ?_)
    . walk_at "go"
      have es:-(Int.gcd t b:Int) = sg t b:=by unfold sg; rw [if_pos c]; omega
      rw [es]
      refine r_fdiv (hc _) ?_
      walk_at "go"
      refine r_fdiv (hc _) ?_
      walk_at "go"
      refine r_tupK fun p hp => ?_
      walk_at "go"
      exact q p hp
    . walk_at "go"
      have es:(Int.gcd t b:Int) = sg t b:=by unfold sg; rw [if_neg c]
      rw [es]
      refine r_fdiv (hc _) ?_
      walk_at "go"
      refine r_fdiv (hc _) ?_
      walk_at "go"
      refine r_tupK fun p hp => ?_
      walk_at "go"
      exact q p hp
theorem ok_added (T:Bl mg) (d:Df K mg "added" s_added ["one","other"]  ) (o_common_divisor:Okf P w K mg base k "common_divisor" ["one","other"] spGcd):Okf P w K mg base (k + 1) "added" ["one","other"] spAddQ:=by
  refine Okf.of d sc_added (fun vs H Q E h => ?_) (fun f cdv A outer s H vs Q E hr h => ?_)
  . obtain ⟨x,y,q1,q2,rfl,_⟩:=h
    rfl
  . obtain ⟨x,y,q1,q2,rfl,⟨p1,rfl,h1⟩,⟨p2,rfl,h2⟩,z1,z2,q⟩:=h
    refine ⟨_,(@pss_cons _ _ _ _ _ (@ps_set _ _ (i:=2) _ _ _ _ sc_added.nd rfl (by first | exact Or.inl rfl | exact Or.inr rfl) (@pe_callO _ _ _ _ _ _ _ _ _ _ o_common_divisor hr rfl (@pa_cons _ _ _ _ _ (@pe_ix _ _ _ _ _ _ _ ix_LT (pv 0) (@pe_int _ _ _ _) (fun _ _ => rfl)) (@pa_cons _ _ _ _ _ (@pe_ix _ _ _ _ _ _ _ ix_LT (pv 1) (@pe_int _ _ _ _) (fun _ _ => rfl)) (@pa_nil _) (by rfl)) (by rfl)) (by decide) (by rfl) (by rfl)) (by rfl) (by first | exact .inl rfl | exact .inr rfl | assumption)) (@pss_cons _ _ _ _ _ (@ps_set _ _ (i:=3) _ _ _ _ sc_added.nd rfl (by first | exact Or.inl rfl | exact Or.inr rfl) (@pe_op _ _ _ _ _ _ _ _ op_fdivB (@pe_ix _ _ _ _ _ _ _ ix_LT (pv 1) (@pe_int _ _ _ _) (fun _ _ => rfl)) (pv 2)) (by rfl) (by first | exact .inl rfl | exact .inr rfl | assumption)) (@pss_cons _ _ _ _ _ (@ps_set _ _ (i:=4) _ _ _ _ sc_added.nd rfl (by first | exact Or.inl rfl | exact Or.inr rfl) (@pe_op _ _ _ _ _ _ _ _ op_addA (@pe_op _ _ _ _ _ _ _ _ op_mulB (@pe_ix _ _ _ _ _ _ _ ix_LT (pv 0) (@pe_int _ _ _ _) (fun _ _ => rfl)) (pv 3)) (@pe_op _ _ _ _ _ _ _ _ op_mulB (@pe_ix _ _ _ _ _ _ _ ix_LT (pv 1) (@pe_int _ _ _ _) (fun _ _ => rfl)) (@pe_op _ _ _ _ _ _ _ _ op_fdivB (@pe_ix _ _ _ _ _ _ _ ix_LT (pv 0) (@pe_int _ _ _ _) (fun _ _ => rfl)) (pv 2)))) (by rfl) (by first | exact .inl rfl | exact .inr rfl | assumption)) (@pss_cons _ _ _ _ _ (@ps_set _ _ (i:=5) _ _ _ _ sc_added.nd rfl (by first | exact Or.inl rfl | exact Or.inr rfl) (@pe_callO _ _ _ _ _ _ _ _ _ _ o_common_divisor hr rfl (@pa_cons _ _ _ _ _ (pv 4) (@pa_cons _ _ _ _ _ (pv 2) (@pa_nil _) (by rfl)) (by rfl)) (by decide) (by rfl) (by rfl)) (by rfl) (by first | exact .inl rfl | exact .inr rfl | assumption)) (@pss_one _ _ _ (@ps_ret _ _ _ _ (@pe_tup _ _ _ _ _ (@pa_cons _ _ _ _ _ (@pe_op _ _ _ _ _ _ _ _ op_fdivB (pv 4) (pv 5)) (@pa_cons _ _ _ _ _ (@pe_op _ _ _ _ _ _ _ _ op_mulB (@pe_op _ _ _ _ _ _ _ _ op_fdivB (@pe_ix _ _ _ _ _ _ _ ix_LT (pv 0) (@pe_int _ _ _ _) (fun _ _ => rfl)) (pv 5)) (pv 3)) (@pa_nil _) (by rfl)) (by rfl))))))))),?_⟩
    try dsimp only [cxK_nox,cxK_of]
    have hq1:=q1.den_pos
    have hq2:=q2.den_pos
    obtain ⟨s0,k0,sb,ks,⟨gp,cop,wr⟩,zu,zv,zf,zb⟩:=add_parts (a:=q1.num) (b:=q1.den) (c:=q2.num) (d:=q2.den) (by omega) (by omega) q1.reduced q2.reduced rfl rfl rfl rfl rfl
    have M:∀ {m n:Nat} {i j:Int},Sm m i -> Sm n j -> m <= 60000000 -> n <= 60000000 -> CMulB i j:=fun h1 h2 h3 h4 => CMulB.s h1 h2 h3 h4
    have sb1:Sm 8000 (q1.den:Int):=z1.2
    have sb2:Sm 8000 (q2.den:Int):=z2.2
    walk_at "go"
    refine ⟨_,_,rfl,?_⟩
    generalize (Int.gcd (q1.den:Int) (q2.den:Int):Int) = s at s0 k0 sb ks gp cop wr zu zv zf zb ⊢
    have hs:Sm 8000 s:=Sm.le (by omega) sb1
    have hds:∀ z,CDivB z s:=fun _ => ⟨by omega,hs⟩
    walk_at "go"
    refine r_fdiv (hds _) ?_
    generalize (q2.den:Int).fdiv s = u at k0 ks gp cop wr zu zv zf zb ⊢
    have hu:Sm 8000 u:=Sm.le zu sb2
    walk_at "go"
    refine r_mul (M (m:=8000) z1.1 hu (by decide) (by decide)) ?_
    walk_at "go"
    refine r_fdiv (hds _) ?_
    generalize (q1.den:Int).fdiv s = v at k0 ks gp cop wr zv zf zb ⊢
    have hv:Sm 8000 v:=Sm.le zv sb1
    walk_at "go"
    refine r_mul (M (m:=8000) z2.1 hv (by decide) (by decide)) ?_
    walk_at "go"
    refine ⟨_,s,rfl,?_⟩
    generalize (Int.gcd (q1.num * u + q2.num * v) s:Int) = k' at k0 ks gp cop wr zf zb ⊢
    have hk:Sm 8000 k':=Sm.le (by omega) hs
    have hdk:∀ z,CDivB z k':=fun _ => ⟨by omega,hk⟩
    walk_at "go"
    refine r_fdiv (hdk _) ?_
    walk_at "go"
    refine r_fdiv (hdk _) ?_
    walk_at "go"
    have hbk:Sm 8000 ((q1.den:Int).fdiv k'):=Sm.le zb sb1
    refine r_mul (M hbk hu (by decide) (by decide)) ?_
    walk_at "go"
    refine r_tupK fun p hp => ?_
    walk_at "go"
    have e:=rat_of (t:=q1.num * q2.den + q2.num * q1.den) (b:=q1.den * q2.den) (Int.mul_ne_zero (by omega) (by omega)) gp cop wr
    rw [← add_divInt] at e
    refine q _ _ ⟨p,rfl,?_⟩ (Same.new hp)
    rw [e.1,e.2]
    exact upd_same
theorem ok_lessened (T:Bl mg) (d:Df K mg "lessened" s_lessened ["one","other"]  ) (o_added:Okf P w K mg base k "added" ["one","other"] spAddQ):Okf P w K mg base (k + 1) "lessened" ["one","other"] spLesQ:=by
  refine Okf.of d sc_lessened (fun vs H Q E h => ?_) (fun f cdv A outer s H vs Q E hr h => ?_)
  . obtain ⟨x,y,q1,q2,rfl,_⟩:=h
    rfl
  . obtain ⟨x,y,q1,q2,rfl,fx,⟨p2,rfl,h2⟩,z1,z2,q⟩:=h
    refine ⟨_,(@pss_one _ _ _ (@ps_ret _ _ _ _ (@pe_callO _ _ _ _ _ _ _ _ _ _ o_added hr rfl (@pa_cons _ _ _ _ _ (pv 0) (@pa_cons _ _ _ _ _ (@pe_tup _ _ _ _ _ (@pa_cons _ _ _ _ _ (@pe_un _ _ _ _ _ _ un_neg (@pe_ix _ _ _ _ _ _ _ ix_LT (pv 1) (@pe_int _ _ _ _) (fun _ _ => rfl))) (@pa_cons _ _ _ _ _ (@pe_ix _ _ _ _ _ _ _ ix_LT (pv 1) (@pe_int _ _ _ _) (fun _ _ => rfl)) (@pa_nil _) (by rfl)) (by rfl))) (@pa_nil _) (by rfl)) (by rfl)) (by decide) (by rfl) (by rfl)))),?_⟩
    try dsimp only [cxK_nox,cxK_of]
    walk_at "go"
    refine r_tupK fun p hp => ?_
    walk_at "go"
    refine ⟨x,.ref p,q1,-q2,rfl,fx.tk (TK.new hp),⟨p,rfl,by rw [Rat.neg_num,Rat.neg_den]; exact upd_same⟩,z1,z2.neg,fun v H' fv s1 => ?_⟩
    walk_at "go"
    exact q v H' (by rw [Rat.sub_eq_add_neg]; exact fv) ((Same.new hp).trans s1)
theorem ok_timed (T:Bl mg) (d:Df K mg "timed" s_timed ["one","other"]  ) (o_fraction:OkfD P w K mg base k "fraction" ["top","bottom"] [.int 1] (spFraction K)):Okf P w K mg base (k + 1) "timed" ["one","other"] spTimQ:=by
  refine Okf.of d sc_timed (fun vs H Q E h => ?_) (fun f cdv A outer s H vs Q E hr h => ?_)
  . obtain ⟨x,y,q1,q2,rfl,_⟩:=h
    rfl
  . obtain ⟨x,y,q1,q2,rfl,⟨p1,rfl,h1⟩,⟨p2,rfl,h2⟩,z1,z2,q⟩:=h
    refine ⟨_,(@pss_one _ _ _ (@ps_ret _ _ _ _ (@pe_callO _ _ _ _ _ _ _ _ _ _ o_fraction.f hr rfl (@pa_cons _ _ _ _ _ (@pe_op _ _ _ _ _ _ _ _ op_mulB (@pe_ix _ _ _ _ _ _ _ ix_LT (pv 0) (@pe_int _ _ _ _) (fun _ _ => rfl)) (@pe_ix _ _ _ _ _ _ _ ix_LT (pv 1) (@pe_int _ _ _ _) (fun _ _ => rfl))) (@pa_cons _ _ _ _ _ (@pe_op _ _ _ _ _ _ _ _ op_mulB (@pe_ix _ _ _ _ _ _ _ ix_LT (pv 0) (@pe_int _ _ _ _) (fun _ _ => rfl)) (@pe_ix _ _ _ _ _ _ _ ix_LT (pv 1) (@pe_int _ _ _ _) (fun _ _ => rfl))) (@pa_nil _) (by rfl)) (by rfl)) (by decide) (by rfl) (by rfl)))),?_⟩
    try dsimp only [cxK_nox,cxK_of]
    have M:∀ {i j:Int},i.natAbs < 2 ^ 3000 -> j.natAbs < 2 ^ 3000 -> CMulB i j:=fun h1 h2 => CMulB.s (m:=3000) (n:=3000) h1 h2 (by decide) (by decide)
    have hb:=q1.den_pos
    have hd:=q2.den_pos
    have hne:(q1.den:Int) * q2.den ≠ 0:=Int.mul_ne_zero (by omega) (by omega)
    walk_at "go"
    refine r_mul (M z1.1 z2.1) ?_
    walk_at "go"
    refine r_mul (M z1.2 z2.2) ?_
    walk_at "go"
    refine ⟨_,_,rfl,hne,(Sm.mul (show Sm 3000 (q1.den:Int) from z1.2) (show Sm 3000 (q2.den:Int) from z2.2)).mono (by decide),fun p hp => ?_⟩
    walk_at "go"
    exact q _ _ (by rw [← mul_low]; exact FrQ.low hne upd_same) (Same.new hp)
theorem ok_divided (T:Bl mg) (d:Df K mg "divided" s_divided ["one","other"]  ) (o_fraction:OkfD P w K mg base k "fraction" ["top","bottom"] [.int 1] (spFraction K)):Okf P w K mg base (k + 1) "divided" ["one","other"] spDivQ:=by
  refine Okf.of d sc_divided (fun vs H Q E h => ?_) (fun f cdv A outer s H vs Q E hr h => ?_)
  . obtain ⟨x,y,q1,q2,rfl,_⟩:=h
    rfl
  . obtain ⟨x,y,q1,q2,rfl,⟨p1,rfl,h1⟩,⟨p2,rfl,h2⟩,z1,z2,h0,q⟩:=h
    refine ⟨_,(@pss_one _ _ _ (@ps_ret _ _ _ _ (@pe_callO _ _ _ _ _ _ _ _ _ _ o_fraction.f hr rfl (@pa_cons _ _ _ _ _ (@pe_op _ _ _ _ _ _ _ _ op_mulB (@pe_ix _ _ _ _ _ _ _ ix_LT (pv 0) (@pe_int _ _ _ _) (fun _ _ => rfl)) (@pe_ix _ _ _ _ _ _ _ ix_LT (pv 1) (@pe_int _ _ _ _) (fun _ _ => rfl))) (@pa_cons _ _ _ _ _ (@pe_op _ _ _ _ _ _ _ _ op_mulB (@pe_ix _ _ _ _ _ _ _ ix_LT (pv 0) (@pe_int _ _ _ _) (fun _ _ => rfl)) (@pe_ix _ _ _ _ _ _ _ ix_LT (pv 1) (@pe_int _ _ _ _) (fun _ _ => rfl))) (@pa_nil _) (by rfl)) (by rfl)) (by decide) (by rfl) (by rfl)))),?_⟩
    try dsimp only [cxK_nox,cxK_of]
    have M:∀ {i j:Int},i.natAbs < 2 ^ 3000 -> j.natAbs < 2 ^ 3000 -> CMulB i j:=fun h1 h2 => CMulB.s (m:=3000) (n:=3000) h1 h2 (by decide) (by decide)
    have hb:=q1.den_pos
    have hd:=q2.den_pos
    have hne:(q1.den:Int) * q2.num ≠ 0:=Int.mul_ne_zero (by omega) (fun z => h0 (Rat.num_eq_zero.mp z))
    walk_at "go"
    refine r_mul (M z1.1 z2.2) ?_
    walk_at "go"
    refine r_mul (M z1.2 z2.1) ?_
    walk_at "go"
    refine ⟨_,_,rfl,hne,(Sm.mul (show Sm 3000 (q1.den:Int) from z1.2) (show Sm 3000 q2.num from z2.1)).mono (by decide),fun p hp => ?_⟩
    walk_at "go"
    exact q _ _ (by rw [← div_low]; exact FrQ.low hne upd_same) (Same.new hp)
theorem ok_is_less (T:Bl mg) (d:Df K mg "is_less" s_is_less ["one","other"]  ):Okf P w K mg base (k + 1) "is_less" ["one","other"] spLessQ:=by
  refine Okf.of d sc_is_less (fun vs H Q E h => ?_) (fun f cdv A outer s H vs Q E hr h => ?_)
  . obtain ⟨x,y,q1,q2,rfl,_⟩:=h
    rfl
  . obtain ⟨x,y,q1,q2,rfl,⟨p1,rfl,h1⟩,⟨p2,rfl,h2⟩,z1,z2,q⟩:=h
    refine ⟨_,(@pss_one _ _ _ (@ps_ret _ _ _ _ (@pe_cmpR _ _ _ _ _ _ _ _ op_lt (@pe_op _ _ _ _ _ _ _ _ op_mulB (@pe_ix _ _ _ _ _ _ _ ix_LT (pv 0) (@pe_int _ _ _ _) (fun _ _ => rfl)) (@pe_ix _ _ _ _ _ _ _ ix_LT (pv 1) (@pe_int _ _ _ _) (fun _ _ => rfl))) (@pe_op _ _ _ _ _ _ _ _ op_mulB (@pe_ix _ _ _ _ _ _ _ ix_LT (pv 1) (@pe_int _ _ _ _) (fun _ _ => rfl)) (@pe_ix _ _ _ _ _ _ _ ix_LT (pv 0) (@pe_int _ _ _ _) (fun _ _ => rfl))) (nomark _)))),?_⟩
    try dsimp only [cxK_nox,cxK_of]
    have M:∀ {i j:Int},i.natAbs < 2 ^ 8000 -> j.natAbs < 2 ^ 8000 -> CMulB i j:=fun h1 h2 => CMulB.s (m:=8000) (n:=8000) h1 h2 (by decide) (by decide)
    walk_at "go"
    refine r_mul (M z1.1 z2.2) ?_
    walk_at "go"
    refine r_mul (M z2.1 z1.2) ?_
    walk_at "go"
    rw [less_iff]
    exact q
theorem ok_posts_of (T:Bl mg) (d:Df K mg "posts_of" s_posts_of ["net"]  ):Okf P w K mg base (k + 1) "posts_of" ["net"] (spPosts w):=by
  refine Okf.of d sc_posts_of (fun vs H Q E h => ?_) (fun f cdv A outer s H vs Q E hr h => ?_)
  . obtain ⟨l,n,U,rfl,_⟩:=h
    rfl
  . obtain ⟨l,n,U,rfl,⟨vs',hl,pvs⟩,hlen,hU,hUn,q⟩:=h
    refine ⟨_,(@pss_one _ _ _ (@ps_ret _ _ _ _ (@pe_callB _ _ _ _ _ _ _ _ _ (call_sortS rfl) rfl T.z_sorted bt_sorted (@pa_cons _ _ _ _ _ (@pe_callTy _ _ _ _ _ _ _ _ _ (call_setS rfl) rfl T.z_set bt_set (@pa_cons _ _ _ _ _ (@pe_op _ _ _ _ _ _ _ _ op_addA (@pe_comp _ _ _ _ _ _ _ _ _ _ _ _ _ _ (@comp_ck _ _ (sc:=defScope s_posts_of) (N:=["net"]) (tn:=["run"]) (names:=[]) (is:=[]) rfl rfl (by decide +kernel) (by decide +kernel) rfl (by decide +kernel) rfl (by decide +kernel) (by decide +kernel) (by decide +kernel)) rfl (@pi_list _ _ _ _ (pv 0)) (fun _ _ _ _ => (@pg_name _ _ (i:=0) _ (show (["run"]:List Str).Nodup by decide +kernel) rfl (Or.inl rfl) (Or.inr rfl))) (fun _ _ _ _ => (@pe_ix _ _ _ _ _ _ _ ix_LTc (pv 0) (@pe_int _ _ _ _) (fun _ _ => rfl))) (fun _ _ _ _ => (@pts_none _)) (by intro _; rfl)) (@pe_comp _ _ _ _ _ _ _ _ _ _ _ _ _ _ (@comp_ck _ _ (sc:=defScope s_posts_of) (N:=["net"]) (tn:=["run"]) (names:=[]) (is:=[]) rfl rfl (by decide +kernel) (by decide +kernel) rfl (by decide +kernel) rfl (by decide +kernel) (by decide +kernel) (by decide +kernel)) rfl (@pi_list _ _ _ _ (pv 0)) (fun _ _ _ _ => (@pg_name _ _ (i:=0) _ (show (["run"]:List Str).Nodup by decide +kernel) rfl (Or.inl rfl) (Or.inr rfl))) (fun _ _ _ _ => (@pe_ix _ _ _ _ _ _ _ ix_LTc (pv 0) (@pe_int _ _ _ _) (fun _ _ => rfl))) (fun _ _ _ _ => (@pts_none _)) (by intro _; rfl))) (@pa_nil _) (by rfl)) (by decide) (by decide) (by rfl) (by rfl)) (@pa_nil _) (by rfl)) (by decide) (by decide) (by rfl) (by rfl)))),?_⟩
    try dsimp only [cxK_nox,cxK_of]
    have hvl:vs'.length = n.length:=(Paired.length pvs).trans (by simp [kn])
    walk_at "go"
    refine r_listK (SqL.of hl) ?_
    refine r_compL (xs:=vs') (by omega) (fun acc i ys G => Kp acc H G /\ ys = (n.take i).map fun r => V.str r.1) (fun acc h0 => ⟨Kp.new h0,rfl⟩) ?_ ?_ ?_
    . intro acc i ys G h0 _ ⟨kp,_⟩
      exact SqL.of (kp _ _ (ne_of_none hl h0) hl)
    . intro acc i ys G x h0 hx hyl hG ⟨kp,e⟩
      obtain ⟨r,hr,p,u,rfl,hp,fu⟩:=Paired.at pvs hx
      obtain ⟨sr,hs,rfl⟩:=kn_at hr
      have hp1:=hp
      have hpG:=kp _ _ (ne_of_none hp1 h0) hp1
      walk_at "go"
      refine c_next (List.getElem?_eq_some_iff.mp hx).1 hyl hG ⟨Kp.trans kp Kp.upd,?_⟩
      have hi:i < n.length:=(List.getElem?_eq_some_iff.mp hs).1
      rw [List.take_succ_eq_append_getElem hi,List.map_append,← e]
      have:n[i] = sr:=by
        rw [List.getElem?_eq_getElem hi] at hs
        exact Option.some.inj hs
      rw [this]
      rfl
    . intro a1 ys1 G1 h1 hG1 hy1 ⟨kp1,e1⟩
      have hl1:=kp1 _ _ (ne_of_none hl h1) hl
      rw [hvl,List.take_length] at e1
      subst e1
      walk_at "go"
      refine r_listK (SqL.of hl1) ?_
      refine r_compL (xs:=vs') (by omega) (fun acc i ys G => Kp acc G1 G /\ ys = (n.take i).map fun r => V.str r.2.1) (fun acc h0 => ⟨Kp.new h0,rfl⟩) ?_ ?_ ?_
      . intro acc i ys G h0 _ ⟨kp,_⟩
        exact SqL.of (kp _ _ (ne_of_none hl1 h0) hl1)
      . intro acc i ys G x h0 hx hyl hG ⟨kp,e⟩
        obtain ⟨r,hr,p,u,rfl,hp,fu⟩:=Paired.at pvs hx
        obtain ⟨sr,hs,rfl⟩:=kn_at hr
        have hp1:=kp1 _ _ (ne_of_none hp h1) hp
        have hpG:=kp _ _ (ne_of_none hp1 h0) hp1
        walk_at "go"
        refine c_next (List.getElem?_eq_some_iff.mp hx).1 hyl hG ⟨Kp.trans kp Kp.upd,?_⟩
        have hi:i < n.length:=(List.getElem?_eq_some_iff.mp hs).1
        rw [List.take_succ_eq_append_getElem hi,List.map_append,← e]
        have:n[i] = sr:=by
          rw [List.getElem?_eq_getElem hi] at hs
          exact Option.some.inj hs
        rw [this]
        rfl
      . intro a2 ys2 G2 h2 hG2 hy2 ⟨kp2,e2⟩
        rw [hvl,List.take_length] at e2
        subst e2
        have h1G:=kp2 _ _ (ne_of_none hG1 h2) hG1
        walk_at "go"
        refine .inr (.inl ⟨a1,a2,_,_,rfl,rfl,h1G,hG2,le_line (by simp; omega),fun a3 h3 => ?_⟩)
        walk_at "go"
        have hcat:((n.map fun r => V.str r.1) ++ n.map fun r => V.str r.2.1) = (names n).map V.str:=by
          rw [names,List.map_append,List.map_map,List.map_map]
          rfl
        rw [hcat]
        refine ⟨a3,names n,rfl,upd_same,by simp [names]; omega,fun a4 zs h4 nd hz => ?_⟩
        walk_at "go"
        refine ⟨a4,zs,rfl,.inl upd_same,Nat.lt_of_le_of_lt (nd_len nd fun x hx => hUn x ((hz x).mp hx)) hU,fun a5 ys h5 hpm hs => ?_⟩
        walk_at "go"
        have sH:Same H (upd (upd (upd G2 a3 (.lst ((names n).map V.str))) a4 (SetS w a4 zs)) a5 (.lst (ys.map V.str))):=fun b o hb => by
          have hb1:=kp1 _ _ (ne_of_none hb h1) hb
          exact upd_old h5 (upd_old h4 (upd_old h3 (kp2 _ _ (ne_of_none hb1 h2) hb1)))
        refine q a5 _ ys ?_ sH upd_same hs (hpm.nodup_iff.mpr nd) fun x => (hpm.mem_iff).trans (hz x)
        cases z:H a5 with
        | none => rfl
        | some o =>
          have hb1:=kp1 _ _ (ne_of_none z h1) z
          rw [upd_old h4 (upd_old h3 (kp2 _ _ (ne_of_none hb1 h2) hb1))] at h5
          cases h5
theorem ok_runs_beside (T:Bl mg) (d:Df K mg "runs_beside" s_runs_beside ["net"]  ):Okf P w K mg base (k + 1) "runs_beside" ["net"] spBes:=by
  refine Okf.of d sc_runs_beside (fun vs H Q E h => ?_) (fun f cdv A outer s H vs Q E hr h => ?_)
  . obtain ⟨l,net,rfl,_⟩:=h
    rfl
  . obtain ⟨l,net,rfl,⟨vs',hl,pvs⟩,hlen,q⟩:=h
    refine ⟨_,(@pss_cons _ _ _ _ _ (@ps_set _ _ (i:=1) _ _ _ _ sc_runs_beside.nd rfl (by first | exact Or.inl rfl | exact Or.inr rfl) (@pe_dnewK _ _) (by rfl) (by first | exact .inl rfl | exact .inr rfl | assumption)) (@pss_cons _ _ _ _ _ (@ps_for _ _ _ _ _ _ _ _ PassesOwn.never rfl (@pi_enum _ _ _ _ _ _ _ _ rfl T.z_enumerate (@pa_cons _ _ _ _ _ (pv 0) (@pa_nil _) (by rfl)) (by rfl)) (@pg_tup _ _ _ _ _ (n:=2) rfl (@pgs_cons _ _ _ _ _ (@pg_name _ _ (i:=2) _ sc_runs_beside.nd rfl (by first | exact Or.inl rfl | exact Or.inr rfl) (by first | exact .inl rfl | exact .inr rfl | assumption)) (@pgs_cons _ _ _ _ _ (@pg_name _ _ (i:=3) _ sc_runs_beside.nd rfl (by first | exact Or.inl rfl | exact Or.inr rfl) (by first | exact .inl rfl | exact .inr rfl | assumption)) (@pgs_nil _) (by rfl)) (by rfl)) (by rfl) (by rfl)) (@pss_cons _ _ _ _ _ (@ps_expr _ _ _ _ (@pe_bm _ _ _ _ _ _ _ _ _ _ _ _ PySem.F.plainAttrs_list PySem.F.slot_list_append PySem.F.type_list_append mt_append (@pe_bm _ _ _ _ _ _ _ _ _ _ _ _ PySem.F.plainAttrs_dict PySem.F.slot_dict_setdefault PySem.F.type_dict_setdefault mt_setdef (pv 1) (@pa_cons _ _ _ _ _ (@pe_ix _ _ _ _ _ _ _ ix_LT (pv 3) (@pe_int _ _ _ _) (fun _ _ => rfl)) (@pa_cons _ _ _ _ _ (@pe_lst _ _ _ _ (@pa_nil _)) (@pa_nil _) (by rfl)) (by rfl)) (by rfl) (by rfl) (by rfl) (by rfl) (by rfl)) (@pa_cons _ _ _ _ _ (@pe_tup _ _ _ _ _ (@pa_cons _ _ _ _ _ (pv 2) (@pa_cons _ _ _ _ _ (@pe_ix _ _ _ _ _ _ _ ix_LT (pv 3) (@pe_int _ _ _ _) (fun _ _ => rfl)) (@pa_nil _) (by rfl)) (by rfl))) (@pa_nil _) (by rfl)) (by rfl) (by rfl) (by rfl) (by rfl) (by rfl)) (by rfl)) (@pss_one _ _ _ (@ps_expr _ _ _ _ (@pe_bm _ _ _ _ _ _ _ _ _ _ _ _ PySem.F.plainAttrs_list PySem.F.slot_list_append PySem.F.type_list_append mt_append (@pe_bm _ _ _ _ _ _ _ _ _ _ _ _ PySem.F.plainAttrs_dict PySem.F.slot_dict_setdefault PySem.F.type_dict_setdefault mt_setdef (pv 1) (@pa_cons _ _ _ _ _ (@pe_ix _ _ _ _ _ _ _ ix_LT (pv 3) (@pe_int _ _ _ _) (fun _ _ => rfl)) (@pa_cons _ _ _ _ _ (@pe_lst _ _ _ _ (@pa_nil _)) (@pa_nil _) (by rfl)) (by rfl)) (by rfl) (by rfl) (by rfl) (by rfl) (by rfl)) (@pa_cons _ _ _ _ _ (@pe_tup _ _ _ _ _ (@pa_cons _ _ _ _ _ (pv 2) (@pa_cons _ _ _ _ _ (@pe_ix _ _ _ _ _ _ _ ix_LT (pv 3) (@pe_int _ _ _ _) (fun _ _ => rfl)) (@pa_nil _) (by rfl)) (by rfl))) (@pa_nil _) (by rfl)) (by rfl) (by rfl) (by rfl) (by rfl) (by rfl)) (by rfl)))) (by intro _; rfl)) (@pss_one _ _ _ (@ps_ret _ _ _ _ (pv 1))))),?_⟩
    try dsimp only [cxK_nox,cxK_of]
    walk_at "go"
    refine r_dnew fun dd hd => ?_
    walk_at "go"
    refine e_K (upd_old hd hl) ?_
    have hvl:vs'.length = net.length:=Paired.length pvs
    refine r_forE (xs:=vs') (fun i σ H1 => ∃ o1 o2 f,σ = [some (.ref l),some (.ref dd),o1,o2] /\ BI H H1 dd f (2 * i) /\ BsOf net i f /\ ∀ q,(f q).length <= 2 * i) ⟨_,_,_,rfl,BI.start hd,BsOf.zero,fun _ => Nat.le_refl _⟩ ?_ ?_ ?_
    . rintro i σ H1 _ ⟨o1,o2,f,rfl,B,_⟩
      exact SqL.of (B.same _ _ hl)
    . rintro i x T0 σ H1 hx hT ⟨o1,o2,f,rfl,B,bs,hlf⟩
      have hi:i < net.length:=by
        have:=(List.getElem?_eq_some_iff.mp hx).1
        omega
      obtain ⟨r,hr,p,u,rfl,hp,fu⟩:=Paired.at pvs hx
      have hpd:p ≠ dd:=ne_of_none hp hd
      have B1:=B.alloc (o:=.tup [.int i,.ref p]) hT
      have hp1:=B1.same _ _ hp
      have hT2:upd H1 T0 (.tup [.int i,.ref p]) T0 = some (.tup [.int i,.ref p]):=upd_same
      generalize upd H1 T0 (.tup [.int i,.ref p]) = H2 at B1 hp1 hT2 ⊢
      obtain ⟨kvs1,a1,b1,c1,e1,g1⟩:=B1.ex
      walk_at "go"
      refine r_lstK fun l1 hl1 => ?_
      walk_at "go"
      refine r_setdef (upd_old hl1 a1) (by omega) (fun u1 hu1 => ?_) (fun hu1 => ?_)
      . obtain ⟨m1,rfl,hm1,xs1,hx1,px1⟩:=e1 _ _ hu1
        walk_at "go"
        refine r_tupK fun t1 ht1 => ?_
        walk_at "go"
        have hxl1:=Paired.length px1
        have hfl1:=hlf r.1
        refine r_app (upd_old ht1 (upd_old hl1 hx1)) (by omega) ?_
        have C1:=B1.more (p:=r.1) (x:=(i,r.2.1)) a1 hu1 hx1 hl1 ht1
        generalize upd (upd (upd H2 l1 _) t1 _) m1 _ = H21 at C1 ⊢
        have hq1:=C1.same _ _ hp
        obtain ⟨kvs2,a2,b2,c2,e2,g2⟩:=C1.ex
        walk_at "go"
        refine r_lstK fun l2 hl2 => ?_
        walk_at "go"
        refine r_setdef (upd_old hl2 a2) (by omega) (fun u2 hu2 => ?_) (fun hu2 => ?_)
        . obtain ⟨m2,rfl,hm2,xs2,hx2,px2⟩:=e2 _ _ hu2
          walk_at "go"
          refine r_tupK fun t2 ht2 => ?_
          walk_at "go"
          have hxl2:=Paired.length px2
          have hfl2:=(bs1_len (p:=r.1) (x:=(i,r.2.1)) hlf) r.2.1
          refine r_app (upd_old ht2 (upd_old hl2 hx2)) (by omega) ?_
          have C2:=C1.more (p:=r.2.1) (x:=(i,r.1)) a2 hu2 hx2 hl2 ht2
          generalize upd (upd (upd H21 l2 _) t2 _) m2 _ = H212 at C2 ⊢
          have hq2:=C2.same _ _ hp
          walk_at "go"
          exact ⟨_,_,_,rfl,C2,bs.next hr,fun q => bs1_len (bs1_len hlf) q⟩
        . have hdl2:l2 ≠ dd:=fun z => by subst z; rw [hl2] at a2; cases a2
          walk_at "go"
          refine r_tupK fun t2 ht2 => ?_
          walk_at "go"
          refine r_app (upd_old ht2 (upd_not hdl2 upd_same)) (by decide) ?_
          have C2:=C1.new (p:=r.2.1) (x:=(i,r.1)) a2 hu2 hl2 ht2
          generalize upd (upd (upd (upd H21 l2 _) _ _) t2 _) l2 _ = H212 at C2 ⊢
          have hq2:=C2.same _ _ hp
          walk_at "go"
          exact ⟨_,_,_,rfl,C2,bs.next hr,fun q => bs1_len (bs1_len hlf) q⟩
      . have hdl1:l1 ≠ dd:=fun z => by subst z; rw [hl1] at a1; cases a1
        walk_at "go"
        refine r_tupK fun t1 ht1 => ?_
        walk_at "go"
        refine r_app (upd_old ht1 (upd_not hdl1 upd_same)) (by decide) ?_
        have C1:=B1.new (p:=r.1) (x:=(i,r.2.1)) a1 hu1 hl1 ht1
        generalize upd (upd (upd (upd H2 l1 _) _ _) t1 _) l1 _ = H21 at C1 ⊢
        have hq1:=C1.same _ _ hp
        obtain ⟨kvs2,a2,b2,c2,e2,g2⟩:=C1.ex
        walk_at "go"
        refine r_lstK fun l2 hl2 => ?_
        walk_at "go"
        refine r_setdef (upd_old hl2 a2) (by omega) (fun u2 hu2 => ?_) (fun hu2 => ?_)
        . obtain ⟨m2,rfl,hm2,xs2,hx2,px2⟩:=e2 _ _ hu2
          walk_at "go"
          refine r_tupK fun t2 ht2 => ?_
          walk_at "go"
          have hxl2:=Paired.length px2
          have hfl2:=(bs1_len (p:=r.1) (x:=(i,r.2.1)) hlf) r.2.1
          refine r_app (upd_old ht2 (upd_old hl2 hx2)) (by omega) ?_
          have C2:=C1.more (p:=r.2.1) (x:=(i,r.1)) a2 hu2 hx2 hl2 ht2
          generalize upd (upd (upd H21 l2 _) t2 _) m2 _ = H212 at C2 ⊢
          have hq2:=C2.same _ _ hp
          walk_at "go"
          exact ⟨_,_,_,rfl,C2,bs.next hr,fun q => bs1_len (bs1_len hlf) q⟩
        . have hdl2:l2 ≠ dd:=fun z => by subst z; rw [hl2] at a2; cases a2
          walk_at "go"
          refine r_tupK fun t2 ht2 => ?_
          walk_at "go"
          refine r_app (upd_old ht2 (upd_not hdl2 upd_same)) (by decide) ?_
          have C2:=C1.new (p:=r.2.1) (x:=(i,r.1)) a2 hu2 hl2 ht2
          generalize upd (upd (upd (upd H21 l2 _) _ _) t2 _) l2 _ = H212 at C2 ⊢
          have hq2:=C2.same _ _ hp
          walk_at "go"
          exact ⟨_,_,_,rfl,C2,bs.next hr,fun q => bs1_len (bs1_len hlf) q⟩
    . rintro σ H1 ⟨o1,o2,f,rfl,B,bs,hlf⟩
      rw [hvl] at bs hlf
      walk_at "go"
      exact q dd H1 hd B.same (B.bes bs hlf)
theorem ok_least_moments (T:Bl mg) (d:Df K mg "least_moments" s_least_moments ["deeds"]  ) (o_is_less:Okf P w K mg base k "is_less" ["one","other"] spLessQ):Okf P w K mg base (k + 1) "least_moments" ["deeds"] spLst:=by
  refine Okf.of d sc_least_moments (fun vs H Q E h => ?_) (fun f cdv A outer s H vs Q E hr h => ?_)
  . obtain ⟨l,ds,rfl,_⟩:=h
    rfl
  . obtain ⟨l,ds,rfl,⟨vs',hl,pvs⟩,hlen,hsz,q⟩:=h
    refine ⟨_,(@pss_cons _ _ _ _ _ (@ps_set _ _ (i:=1) _ _ _ _ sc_least_moments.nd rfl (by first | exact Or.inl rfl | exact Or.inr rfl) (@pe_dnewK _ _) (by rfl) (by first | exact .inl rfl | exact .inr rfl | assumption)) (@pss_cons _ _ _ _ _ (@ps_for _ _ _ _ _ _ _ _ PassesOwn.never rfl (@pi_list _ _ _ _ (pv 0)) (@pg_tup _ _ _ _ _ (n:=2) rfl (@pgs_cons _ _ _ _ _ (@pg_name _ _ (i:=2) _ sc_least_moments.nd rfl (by first | exact Or.inl rfl | exact Or.inr rfl) (by first | exact .inl rfl | exact .inr rfl | assumption)) (@pgs_cons _ _ _ _ _ (@pg_name _ _ (i:=3) _ sc_least_moments.nd rfl (by first | exact Or.inl rfl | exact Or.inr rfl) (by first | exact .inl rfl | exact .inr rfl | assumption)) (@pgs_nil _) (by rfl)) (by rfl)) (by rfl) (by rfl)) (@pss_one _ _ _ (@ps_if _ _ _ _ _ _ _ _ (@PW.pt _ _ _ (@pw_or _ _ _ _ _ _ _ (@pt_cmp _ _ _ _ _ _ (@pc_dnotin _ _ _ _ _ hr.u1 (pv 2) (pv 1)) (by first | exact nobehind _ (by decide) (by decide) | rfl)) (@pw_or1 _ _ _ _ (@pt_val _ _ _ (@pe_callO _ _ _ _ _ _ _ _ _ _ o_is_less hr rfl (@pa_cons _ _ _ _ _ (pv 3) (@pa_cons _ _ _ _ _ (@pe_dget _ _ _ _ _ _ hr.u1 (pv 1) (pv 2) (fun _ _ => rfl)) (@pa_nil _) (by rfl)) (by rfl)) (by decide) (by rfl) (by rfl)) (by intro _; rfl))))) (@pss_one _ _ _ (@ps_dput _ _ _ _ _ _ _ _ _ hr.u1 (pv 1) (pv 2) (pv 3) rfl)) (@pss_nil _))) (by intro _; rfl)) (@pss_one _ _ _ (@ps_ret _ _ _ _ (pv 1))))),?_⟩
    try dsimp only [cxK_nox,cxK_of]
    walk_at "go"
    refine r_dnew fun d hd => ?_
    walk_at "go"
    refine r_listK (SqL.of (upd_old hd hl)) ?_
    have hvl:vs'.length = ds.length:=Paired.length pvs
    refine r_forL (xs:=vs') (fun i σ H1 => ∃ o1 o2,σ = [some (.ref l),some (.ref d),o1,o2] /\ Same H H1 /\ DQ FrQ H1 d (lst (ds.take i))) ⟨_,_,rfl,Same.new hd,[],upd_same,.nil⟩ ?_ ?_ ?_
    . rintro i σ H1 _ ⟨o1,o2,rfl,s1,_⟩
      exact SqL.of (s1 _ _ hl)
    . rintro i x σ H1 hx ⟨o1,o2,rfl,s1,kvs,hk,kq⟩
      have hi:i < ds.length:=by
        have:=(List.getElem?_eq_some_iff.mp hx).1
        omega
      obtain ⟨y,hy,p,u,rfl,hp,fu⟩:=Paired.at pvs hx
      obtain ⟨kk,qq⟩:=y
      have hy2:ds[i] = (kk,qq):=by
        rw [List.getElem?_eq_getElem hi] at hy
        exact Option.some.inj hy
      have hp1:=s1 _ _ hp
      have fu1:FrQ H1 u qq:=fu.tk s1.tk
      have zq:Sz 8000 qq:=hsz (kk,qq) (hy2 ▸ List.getElem_mem hi)
      have hkl:kvs.length <= 1000:=by
        have h1:=kq.len
        have h2:(lst (ds.take i)).length <= ds.length:=by
          have:=lst_len (ds.take i)
          rw [List.length_take] at this
          omega
        omega
      have et:ds.take (i + 1) = ds.take i ++ [(kk,qq)]:=by rw [List.take_succ_eq_append_getElem hi,hy2]
      have fin:lstep (lst (ds.take i)) (kk,qq) = aput (lst (ds.take i)) kk qq -> ∃ o1 o2,[some (V.ref l),some (V.ref d),some (kV kk),some u] = [some (V.ref l),some (V.ref d),o1,o2] /\ Same H (upd H1 d (.dK (putK kvs kk u))) /\ DQ FrQ (upd H1 d (.dK (putK kvs kk u))) d (lst (ds.take (i + 1))):=fun e => by
        refine ⟨_,_,rfl,fun c o hc => ?_,_,upd_same,?_⟩
        . rw [upd_ne (ne_of_none hc hd)]
          exact s1 _ _ hc
        . rw [et,lst_snoc,e]
          exact ((kq.put (k:=kk) fu1).imp fun v b f => f.tk (TK.dic hk))
      walk_at "go"
      refine r_dNk (.inl hk) ?_
      rcases kq.val (k:=kk) with ⟨e1,e2⟩ | ⟨v1,r1,e1,e2,f1⟩
      . rw [e1]
        walk_at "go"
        refine r_dPk hk hkl ?_
        walk_at "go"
        refine fin ?_
        unfold lstep
        rw [e2]
      . rw [e1]
        walk_at "go"
        refine r_dGk (.inl hk) e1 ?_
        walk_at "go"
        have zr:Sz 8000 r1:=hsz (kk,r1) (List.mem_of_mem_take (lst_mem (aget_mem e2)))
        refine ⟨u,v1,qq,r1,rfl,fu1,f1,zq,zr,?_⟩
        walk_at "go"
        refine i_d (fun c => ?_) (fun c => ?_)
        . walk_at "go"
          refine r_dPk hk hkl ?_
          walk_at "go"
          refine fin ?_
          unfold lstep
          rw [e2]
          exact if_pos c
        . walk_at "go"
          refine ⟨_,_,rfl,s1,kvs,hk,?_⟩
          rw [et,lst_snoc]
          unfold lstep
          rw [e2]
          show KQ FrQ H1 kvs (if qq < r1 then _ else _)
          rw [if_neg c]
          exact kq
    . rintro σ H1 ⟨o1,o2,rfl,s1,dq⟩
      walk_at "go"
      rw [hvl,List.take_length] at dq
      exact q d H1 hd s1 dq
theorem ok_is_out (T:Bl mg) (d:Df K mg "is_out" s_is_out ["taken","number","moment"]  ) (o_is_less:Okf P w K mg base k "is_less" ["one","other"] spLessQ):Okf P w K mg base (k + 1) "is_out" ["taken","number","moment"] spOut:=by
  refine Okf.of d sc_is_out (fun vs H Q E h => ?_) (fun f cdv A outer s H vs Q E hr h => ?_)
  . obtain ⟨dd,tm,kk,v,t,rfl,_⟩:=h
    rfl
  . obtain ⟨dd,tm,kk,v,t,rfl,⟨kvs,hk,kq⟩,ft,zm,zt,q⟩:=h
    refine ⟨_,(@pss_one _ _ _ (@ps_ret _ _ _ _ (@pe_and _ _ _ _ _ _ _ (@pe_cmp _ _ _ _ _ _ (@pc_din _ _ _ _ _ hr.u1 (pv 1) (pv 0)) (by first | exact nobehind _ (by decide) (by decide) | rfl)) (@pe_one _ _ _ _ _ (@pe_callO _ _ _ _ _ _ _ _ _ _ o_is_less hr rfl (@pa_cons _ _ _ _ _ (@pe_dget _ _ _ _ _ _ hr.u1 (pv 0) (pv 1) (fun _ _ => rfl)) (@pa_cons _ _ _ _ _ (pv 2) (@pa_nil _) (by rfl)) (by rfl)) (by decide) (by rfl) (by rfl)))))),?_⟩
    try dsimp only [cxK_nox,cxK_of]
    walk_at "go"
    refine r_dIi (.inl hk) ?_
    unfold outB at q
    rcases kq.val (k:=Sum.inl kk) with ⟨e1,e2⟩ | ⟨v1,r1,e1,e2,f1⟩
    . rw [e2] at q
      rw [e1]
      walk_at "go"
      exact q
    . rw [e2] at q
      rw [e1]
      walk_at "go"
      refine r_dGi (.inl hk) e1 ?_
      walk_at "go"
      refine ⟨v1,v,r1,t,rfl,f1,ft,zm (Sum.inl kk,r1) (aget_mem e2),zt,?_⟩
      walk_at "go"
      exact q
theorem ok_earliest_of (T:Bl mg) (d:Df K mg "earliest_of" s_earliest_of ["waiting"]  ) (o_is_less:Okf P w K mg base k "is_less" ["one","other"] spLessQ):Okf P w K mg base (k + 1) "earliest_of" ["waiting"] spEar:=by
  refine Okf.of d sc_earliest_of (fun vs H Q E h => ?_) (fun f cdv A outer s H vs Q E hr h => ?_)
  . obtain ⟨a,W,rfl,_⟩:=h
    rfl
  . obtain ⟨a,W,rfl,⟨kvs,hk,kq⟩,nd,zW,hne,q⟩:=h
    refine ⟨_,(@pss_cons _ _ _ _ _ (@ps_set _ _ (i:=1) _ _ _ _ sc_earliest_of.nd rfl (by first | exact Or.inl rfl | exact Or.inr rfl) (@pe_non _ _ _) (by rfl) (by first | exact .inl rfl | exact .inr rfl | assumption)) (@pss_cons _ _ _ _ _ (@ps_forD _ _ _ _ _ _ _ _ PassesOwn.never rfl (pv 0) (@pg_name _ _ (i:=2) _ sc_earliest_of.nd rfl (by first | exact Or.inl rfl | exact Or.inr rfl) (by first | exact .inl rfl | exact .inr rfl | assumption)) (@pss_one _ _ _ (@ps_if _ _ _ _ _ _ _ _ (@PW.pt _ _ _ (@pw_or _ _ _ _ _ _ _ (@pt_cmpR _ _ _ _ _ _ _ _ op_isN2 (pv 1) (@pe_non _ _ _) (nomark _)) (@pw_or1 _ _ _ _ (@pt_val _ _ _ (@pe_callO _ _ _ _ _ _ _ _ _ _ o_is_less hr rfl (@pa_cons _ _ _ _ _ (@pe_ix _ _ _ _ _ _ _ ix_LT (@pe_dget _ _ _ _ _ _ hr.u1 (pv 0) (pv 2) (fun _ _ => rfl)) (@pe_int _ _ _ _) (fun _ _ => rfl)) (@pa_cons _ _ _ _ _ (@pe_ix _ _ _ _ _ _ _ ix_LT (@pe_dget _ _ _ _ _ _ hr.u1 (pv 0) (pv 1) (fun _ _ => rfl)) (@pe_int _ _ _ _) (fun _ _ => rfl)) (@pa_nil _) (by rfl)) (by rfl)) (by decide) (by rfl) (by rfl)) (by intro _; rfl))))) (@pss_one _ _ _ (@ps_set _ _ (i:=1) _ _ _ _ sc_earliest_of.nd rfl (by first | exact Or.inl rfl | exact Or.inr rfl) (pv 2) (by rfl) (by first | exact .inl rfl | exact .inr rfl | assumption))) (@pss_nil _))) (by intro _; rfl)) (@pss_one _ _ _ (@ps_ret _ _ _ _ (pv 1))))),?_⟩
    try dsimp only [cxK_nox,cxK_of]
    walk_at "go"
    refine r_forD a (NoFrz.dK hk) ?_
    walk_at "go"
    refine ⟨rfl,kvs,hk,fun o => ?_⟩
    have ek:∀ {p:Key} {e:EntD Key},(p,e) ∈ W -> ∃ v,valV kvs p = some v /\ EntQ (upd H a (.frz o (.dK kvs))) v e:=fun {p e} hp => by
      rcases kq.val (k:=p) with ⟨_,e2⟩ | ⟨v1,r1,e1,e2,f1⟩
      . rw [aget_of nd hp] at e2
        cases e2
      . rw [aget_of nd hp] at e2
        cases e2
        exact ⟨v1,e1,f1.tk (TK.dic hk)⟩
    refine r_forDk (fun i σ H1 => H1 = upd H a (.frz o (.dK kvs)) /\ ∃ e o2,σ = [some (.ref a),some e,o2] /\ ((i = 0 /\ e = .non) ∨ ∃ p en,(p,en) ∈ W /\ e = kV p /\ ∀ j w,j < i -> W[j]? = some w -> en.1 <= w.2.1)) ⟨rfl,_,_,rfl,.inl ⟨rfl,rfl⟩⟩ ?_ ?_ ?_
    . rintro i σ H1 _ ⟨rfl,_⟩
      exact upd_same
    . rintro i c v σ H1 hx ⟨rfl,e,o2,rfl,he⟩
      have hi:i < W.length:=by
        have h1:=(List.getElem?_eq_some_iff.mp hx).1
        have h2:=kq.len
        omega
      obtain ⟨y,hy,e0,_⟩:=Paired.at kq hx
      obtain ⟨c',en⟩:=y
      cases (show c = c' from e0)
      have hm:(c,en) ∈ W:=List.mem_of_getElem? hy
      obtain ⟨v1,e1,p1,u1,rfl,h1,f1⟩:=ek hm
      rcases he with ⟨rfl,rfl⟩ | ⟨p,ep,hp,rfl,le⟩
      . walk_at "go"
        refine ⟨rfl,_,_,rfl,.inr ⟨c,en,hm,rfl,fun j w hj hw => ?_⟩⟩
        have:j = 0:=by omega
        subst this
        rw [hw] at hy
        cases hy
        exact Rat.le_refl
      . obtain ⟨v2,e2,p2,u2,rfl,h2,f2⟩:=ek hp
        walk_at "go"
        refine r_dGk (.inr ⟨_,upd_same⟩) e1 ?_
        walk_at "go"
        refine r_dGk (.inr ⟨_,upd_same⟩) e2 ?_
        walk_at "go"
        refine ⟨u1,u2,en.1,ep.1,rfl,f1,f2,zW _ hm,zW _ hp,?_⟩
        walk_at "go"
        refine i_d (fun c1 => ?_) (fun c1 => ?_)
        . walk_at "go"
          refine ⟨rfl,_,_,rfl,.inr ⟨c,en,hm,rfl,fun j w hj hw => ?_⟩⟩
          by_cases z:j = i
          . subst z
            rw [hw] at hy
            cases hy
            exact Rat.le_refl
          . exact Rat.le_trans (Rat.le_of_lt c1) (le j w (by omega) hw)
        . walk_at "go"
          refine ⟨rfl,_,_,rfl,.inr ⟨p,ep,hp,rfl,fun j w hj hw => ?_⟩⟩
          by_cases z:j = i
          . subst z
            rw [hw] at hy
            cases hy
            exact Rat.not_lt.mp c1
          . exact le j w (by omega) hw
    . rintro σ H1 ⟨rfl,e,o2,rfl,he⟩
      have hl:=kq.len
      have hW:W.length ≠ 0:=fun z => hne (List.length_eq_zero_iff.mp z)
      rcases he with ⟨z,_⟩ | ⟨p,ep,hp,rfl,le⟩
      . omega
      . refine r_dmN ?_
        rw [melt_frz upd_same,upd_upd,upd_self hk]
        walk_at "go"
        refine q p ep hp fun w hw => ?_
        obtain ⟨j,hj⟩:=List.getElem?_of_mem hw
        exact le j w (by have:=(List.getElem?_eq_some_iff.mp hj).1; omega) hj
set_option maxHeartbeats 0 in
theorem ok_falls_of (T:Bl mg) (d:DfD K mg "falls_of" s_falls_of ["net","pushes","takings"] [.non] ) (o_is_less:Okf P w K mg base k "is_less" ["one","other"] spLessQ) (o_is_out:Okf P w K mg base k "is_out" ["taken","number","moment"] spOut) (o_added:Okf P w K mg base k "added" ["one","other"] spAddQ) (o_earliest_of:Okf P w K mg base k "earliest_of" ["waiting"] spEar) (o_least_moments:Okf P w K mg base k "least_moments" ["deeds"] spLst) (o_runs_beside:Okf P w K mg base k "runs_beside" ["net"] spBes):OkfD P w K mg base (k + 1) "falls_of" ["net","pushes","takings"] [.non] spFls:=by
  refine OkfD.of d sc_falls_of (fun vs H Q E h => ?_) (fun f cdv A outer s H vs Q E hr h => ?_)
  . obtain ⟨l,net,lp,ps,vt,ts,DD,MM,rfl,_⟩:=h
    rfl
  . obtain ⟨l,net,lp,ps,vt,ts,DD,MM,rfl,hnet,hps,hts,hR,q⟩:=h
    refine ⟨_,(@pss_cons _ _ _ _ _ (@ps_set _ _ (i:=3) _ _ _ _ sc_falls_of.nd rfl (by first | exact Or.inl rfl | exact Or.inr rfl) (@pe_callO _ _ _ _ _ _ _ _ _ _ o_runs_beside hr rfl (@pa_cons _ _ _ _ _ (pv 0) (@pa_nil _) (by rfl)) (by decide) (by rfl) (by rfl)) (by rfl) (by first | exact .inl rfl | exact .inr rfl | assumption)) (@pss_cons _ _ _ _ _ (@ps_set _ _ (i:=4) _ _ _ _ sc_falls_of.nd rfl (by first | exact Or.inl rfl | exact Or.inr rfl) (@pe_callO _ _ _ _ _ _ _ _ _ _ o_least_moments hr rfl (@pa_cons _ _ _ _ _ (@pe_orT _ _ _ _ _ _ _ (pv 2) (@pe_one _ _ _ _ _ (@pe_lst _ _ _ _ (@pa_nil _)))) (@pa_nil _) (by rfl)) (by decide) (by rfl) (by rfl)) (by rfl) (by first | exact .inl rfl | exact .inr rfl | assumption)) (@pss_cons _ _ _ _ _ (@ps_set _ _ (i:=5) _ _ _ _ sc_falls_of.nd rfl (by first | exact Or.inl rfl | exact Or.inr rfl) (@pe_callO _ _ _ _ _ _ _ _ _ _ o_least_moments hr rfl (@pa_cons _ _ _ _ _ (pv 1) (@pa_nil _) (by rfl)) (by decide) (by rfl) (by rfl)) (by rfl) (by first | exact .inl rfl | exact .inr rfl | assumption)) (@pss_cons _ _ _ _ _ (@ps_set _ _ (i:=6) _ _ _ _ sc_falls_of.nd rfl (by first | exact Or.inl rfl | exact Or.inr rfl) (@pe_callTy _ _ _ _ _ _ _ _ _ (call_dictP rfl) rfl T.z_dict bt_dict (@pa_cons _ _ _ _ _ (@pe_compD _ _ _ _ _ _ _ _ _ _ _ _ _ _ (@comp_ck _ _ (sc:=defScope s_falls_of) (N:=["net","pushes","takings","beside","taken","pushed","waiting","fallen","post","number","other","moment"]) (tn:=["post"]) (names:=["pushed"]) (is:=[5]) rfl rfl (by decide +kernel) (by decide +kernel) rfl (by decide +kernel) rfl (by decide +kernel) (by decide +kernel) (by decide +kernel)) rfl (pv 5) (fun _ _ _ _ => (@pg_name _ _ (i:=0) _ (show (["post","pushed"]:List Str).Nodup by decide +kernel) rfl (Or.inl rfl) (Or.inr rfl))) (fun _ _ _ _ => (@pe_tup _ _ _ _ _ (@pa_cons _ _ _ _ _ (pv 0) (@pa_cons _ _ _ _ _ (@pe_tup _ _ _ _ _ (@pa_cons _ _ _ _ _ (@pe_dget _ _ _ _ _ _ hr.u1 (pv 1) (pv 0) (fun _ _ => rfl)) (@pa_cons _ _ _ _ _ (@pe_non _ _ _) (@pa_cons _ _ _ _ _ (@pe_non _ _ _) (@pa_nil _) (by rfl)) (by rfl)) (by rfl))) (@pa_nil _) (by rfl)) (by rfl)))) (fun _ _ _ _ => (@pts_none _)) (by intro _; rfl)) (@pa_nil _) (by rfl)) (by decide) (by decide) (by rfl) (by rfl)) (by rfl) (by first | exact .inl rfl | exact .inr rfl | assumption)) (@pss_cons _ _ _ _ _ (@ps_set _ _ (i:=7) _ _ _ _ sc_falls_of.nd rfl (by first | exact Or.inl rfl | exact Or.inr rfl) (@pe_dnewK _ _) (by rfl) (by first | exact .inl rfl | exact .inr rfl | assumption)) (@pss_cons _ _ _ _ _ (@ps_while _ _ _ _ _ _ PassesOwn.never (@pt_tru _ _ _ (pv 6) (by intro _; rfl)) (@pss_cons _ _ _ _ _ (@ps_set _ _ (i:=8) _ _ _ _ sc_falls_of.nd rfl (by first | exact Or.inl rfl | exact Or.inr rfl) (@pe_callO _ _ _ _ _ _ _ _ _ _ o_earliest_of hr rfl (@pa_cons _ _ _ _ _ (pv 6) (@pa_nil _) (by rfl)) (by decide) (by rfl) (by rfl)) (by rfl) (by first | exact .inl rfl | exact .inr rfl | assumption)) (@pss_cons _ _ _ _ _ (@ps_dput _ _ _ _ _ _ _ _ _ hr.u1 (pv 7) (pv 8) (@pe_dpop1 _ _ _ _ _ _ _ (pv 6) (pv 8) ⟨rfl,rfl,rfl,rfl⟩) rfl) (@pss_one _ _ _ (@ps_for _ _ _ _ _ _ _ _ PassesOwn.never rfl (@pi_list _ _ _ _ (@pe_dget2 _ _ _ _ _ _ _ _ _ hr.u1 (pv 3) (pv 8) (@pe_lst _ _ _ _ (@pa_nil _)) ⟨rfl,rfl,rfl,rfl⟩)) (@pg_tup _ _ _ _ _ (n:=2) rfl (@pgs_cons _ _ _ _ _ (@pg_name _ _ (i:=9) _ sc_falls_of.nd rfl (by first | exact Or.inl rfl | exact Or.inr rfl) (by first | exact .inl rfl | exact .inr rfl | assumption)) (@pgs_cons _ _ _ _ _ (@pg_name _ _ (i:=10) _ sc_falls_of.nd rfl (by first | exact Or.inl rfl | exact Or.inr rfl) (by first | exact .inl rfl | exact .inr rfl | assumption)) (@pgs_nil _) (by rfl)) (by rfl)) (by rfl) (by rfl)) (@pss_cons _ _ _ _ _ (@ps_set _ _ (i:=11) _ _ _ _ sc_falls_of.nd rfl (by first | exact Or.inl rfl | exact Or.inr rfl) (@pe_callO _ _ _ _ _ _ _ _ _ _ o_added hr rfl (@pa_cons _ _ _ _ _ (@pe_ix _ _ _ _ _ _ _ ix_LT (@pe_dget _ _ _ _ _ _ hr.u1 (pv 7) (pv 8) (fun _ _ => rfl)) (@pe_int _ _ _ _) (fun _ _ => rfl)) (@pa_cons _ _ _ _ _ (@pe_ix _ _ _ _ _ _ _ ix_LT (@pe_ix _ _ _ _ _ _ _ ix_LT (pv 0) (pv 9) (fun _ _ => rfl)) (@pe_int _ _ _ _) (fun _ _ => rfl)) (@pa_nil _) (by rfl)) (by rfl)) (by decide) (by rfl) (by rfl)) (by rfl) (by first | exact .inl rfl | exact .inr rfl | assumption)) (@pss_cons _ _ _ _ _ (@ps_if _ _ _ _ _ _ _ _ (@PW.pt _ _ _ (@pw_or _ _ _ _ _ _ _ (@pt_cmp _ _ _ _ _ _ (@pc_din _ _ _ _ _ hr.u1 (pv 10) (pv 7)) (by first | exact nobehind _ (by decide) (by decide) | rfl)) (@pw_or1 _ _ _ _ (@pt_val _ _ _ (@pe_callO _ _ _ _ _ _ _ _ _ _ o_is_out hr rfl (@pa_cons _ _ _ _ _ (pv 4) (@pa_cons _ _ _ _ _ (pv 9) (@pa_cons _ _ _ _ _ (pv 11) (@pa_nil _) (by rfl)) (by rfl)) (by rfl)) (by decide) (by rfl) (by rfl)) (by intro _; rfl))))) (@pss_one _ _ _ (@ps_continue _ _)) (@pss_nil _)) (@pss_one _ _ _ (@ps_if _ _ _ _ _ _ _ _ (@PW.pt _ _ _ (@pw_or _ _ _ _ _ _ _ (@pt_cmp _ _ _ _ _ _ (@pc_dnotin _ _ _ _ _ hr.u1 (pv 10) (pv 6)) (by first | exact nobehind _ (by decide) (by decide) | rfl)) (@pw_or1 _ _ _ _ (@pt_val _ _ _ (@pe_callO _ _ _ _ _ _ _ _ _ _ o_is_less hr rfl (@pa_cons _ _ _ _ _ (pv 11) (@pa_cons _ _ _ _ _ (@pe_ix _ _ _ _ _ _ _ ix_LT (@pe_dget _ _ _ _ _ _ hr.u1 (pv 6) (pv 10) (fun _ _ => rfl)) (@pe_int _ _ _ _) (fun _ _ => rfl)) (@pa_nil _) (by rfl)) (by rfl)) (by decide) (by rfl) (by rfl)) (by intro _; rfl))))) (@pss_one _ _ _ (@ps_dput _ _ _ _ _ _ _ _ _ hr.u1 (pv 6) (pv 10) (@pe_tup _ _ _ _ _ (@pa_cons _ _ _ _ _ (pv 11) (@pa_cons _ _ _ _ _ (pv 9) (@pa_cons _ _ _ _ _ (pv 8) (@pa_nil _) (by rfl)) (by rfl)) (by rfl))) rfl)) (@pss_nil _))))) (by intro _; rfl)))))) (@pss_one _ _ _ (@ps_ret _ _ _ _ (pv 7))))))))),?_⟩
    try dsimp only [cxK_nox,cxK_of]
    walk_at "go"
    refine ⟨l,net,rfl,hnet.lq,hnet.len,fun dB H1 hB s1 bes => ?_⟩
    walk_at "go"
    refine r_orL (hts.sm s1) fun lt H2 s2 lq2 => ?_
    walk_at "go"
    refine ⟨lt,ts,rfl,lq2,Nat.le_trans hts.len (by decide),hts.sz,fun dT H3 hT s3 tq => ?_⟩
    walk_at "go"
    have s13:=(s1.trans s2).trans s3
    have hlp:=hps.len
    refine ⟨lp,ps,rfl,(hps.sm s13).lq,by omega,fun x hx => hR.sz (hps.bd x hx) (by omega),fun dP H4 hP s4 pq => ?_⟩
    walk_at "go"
    obtain ⟨kP,hkP,qP⟩:=pq
    refine r_compD dP (NoFrz.dK hkP) ?_
    walk_at "go"
    refine ⟨rfl,kP,hkP,fun ob => ?_⟩
    have hPl:kP.length <= 100:=by
      have h1:=qP.len
      have h2:=lst_len ps
      omega
    refine r_compDk (by omega) (fun acc i ys G => Kp acc (upd H4 dP (.frz ob (.dK kP))) G /\ Paired (fun v (x:Key×EntD Key) => ∃ a u,v = .ref a /\ G a = some (.tup [kV x.1,u]) /\ EntQ G u x.2) ys (((lst ps).map fun x => (x.1,(x.2,none))).take i)) ?_ ?_ ?_ ?_
    . intro acc h0
      exact ⟨Kp.new h0,.nil⟩
    . intro acc i ys G h0 _ ⟨k,_⟩
      exact k _ _ (fun z => by subst z; rw [upd_same] at h0; cases h0) upd_same
    . intro acc i ys G kk v h0 hx hyl hG ⟨kp,pr⟩
      have hdP:G dP = some (.frz ob (.dK kP)):=kp _ _ (fun z => by subst z; rw [upd_same] at h0; cases h0) upd_same
      have hi:i < (lst ps).length:=by
        have h1:=(List.getElem?_eq_some_iff.mp hx).1
        have h2:=qP.len
        omega
      obtain ⟨y,hy,e0,fv⟩:=Paired.at qP hx
      obtain ⟨kk',qq⟩:=y
      cases (show kk = kk' from e0)
      have hag:aget (lst ps) kk = some qq:=aget_of (lst_nd ps) (List.mem_of_getElem? hy)
      obtain ⟨v1,e1,f1⟩:∃ v1,valV kP kk = some v1 /\ FrQ G v1 qq:=by
        rcases qP.val (k:=kk) with ⟨_,e2⟩ | ⟨v1,r1,e1,e2,f1⟩
        . rw [hag] at e2
          cases e2
        . rw [hag] at e2
          cases e2
          refine ⟨v1,e1,f1.tk (TK.trans (TK.dic hkP) fun p xs h => kp _ _ (ne_of_none h h0) h)⟩
      walk_at "go"
      refine r_dGk (.inr ⟨_,hdP⟩) e1 ?_
      walk_at "go"
      refine r_tupK fun t1 ht1 => ?_
      walk_at "go"
      refine r_tupK fun t2 ht2 => ?_
      have hG2:=upd_old (o:=.tup [kV kk,.ref t1]) ht2 (upd_old (o:=.tup [v1,.non,.non]) ht1 hG)
      refine c_next (List.getElem?_eq_some_iff.mp hx).1 hyl hG2 ⟨?_,?_⟩
      . exact Kp.trans (Kp.trans (Kp.trans kp (Kp.new ht1)) (Kp.new ht2)) Kp.upd
      . have tk:TK (upd (upd G t1 (.tup [v1,.non,.non])) t2 (.tup [kV kk,.ref t1])) (upd (upd (upd G t1 (.tup [v1,.non,.non])) t2 (.tup [kV kk,.ref t1])) acc (.lst (ys ++ [.ref t2]))):=TK.lst hG2
        have tk2:=((TK.new (o:=.tup [v1,.non,.non]) ht1).trans (TK.new (o:=.tup [kV kk,.ref t1]) ht2)).trans tk
        have hi':i < ((lst ps).map fun x => (x.1,((x.2,none):EntD Key))).length:=by rw [List.length_map]; exact hi
        rw [List.take_succ_eq_append_getElem hi']
        have:((lst ps).map fun x => (x.1,((x.2,none):EntD Key)))[i] = (kk,(qq,none)):=by
          rw [List.getElem_map]
          rw [List.getElem?_eq_getElem hi] at hy
          rw [Option.some.inj hy]
        rw [this]
        refine Pd.snoc (Pd.imp pr fun v x ⟨a,u,e,h,f⟩ => ⟨a,u,e,tk2 _ _ h,f.tk tk2⟩) ⟨t2,.ref t1,rfl,tk _ _ upd_same,t1,v1,rfl,tk _ _ (upd_old ht2 upd_same),f1.tk tk2⟩
    . intro acc ys G h0 hG hyl ⟨kp,pr⟩
      have hdP:G dP = some (.frz ob (.dK kP)):=kp _ _ (fun z => by subst z; rw [upd_same] at h0; cases h0) upd_same
      have hap:acc ≠ dP:=fun z => by subst z; rw [upd_same] at h0; cases h0
      have s5:Same H4 (melt dP G):=fun b o h => by
        rw [melt_frz hdP]
        by_cases hb:b = dP
        . subst hb
          rw [hkP] at h
          rw [upd_same]
          exact h
        . rw [upd_ne hb]
          refine kp _ _ (fun z => ?_) (by rw [upd_ne hb]; exact h)
          subst z
          rw [upd_ne hb,h] at h0
          cases h0
      have tk5:TK G (melt dP G):=TK.melt
      have hacc:melt dP G acc = some (.lst ys):=by rw [melt_ne hap]; exact hG
      have pr2:=Pd.imp (G:=fun v (x:Key×EntD Key) => ∃ a u,v = .ref a /\ melt dP G a = some (.tup [kV x.1,u]) /\ EntQ (melt dP G) u x.2) pr fun v x ⟨a,u,e,h,f⟩ => ⟨a,u,e,tk5 _ _ h,f.tk tk5⟩
      have hlW:kP.length = ((lst ps).map fun x => (x.1,((x.2,none):EntD Key))).length:=by rw [List.length_map]; exact qP.len
      rw [hlW,List.take_length] at pr2
      obtain ⟨k0,pa,kq0⟩:=pairs_of pr2
      show tNil _ _ _
      generalize melt dP G = H5 at *
      walk_at "go"
      refine ⟨acc,ys,k0,rfl,hacc,pa,by omega,fun dW hW => ?_⟩
      have nd0:(((lst ps).map fun x => (x.1,((x.2,none):EntD Key))).map (·.1)).Nodup:=by
        rw [List.map_map]
        exact lst_nd ps
      rw [mergeK_nd (by rw [List.nil_append,kq0.keys]; exact nd0),List.nil_append]
      walk_at "go"
      refine r_dnew fun dF hF => ?_
      walk_at "go"
      have hWF:dW ≠ dF:=fun z => by subst z; rw [upd_same] at hF; cases hF
      have hW0:upd (upd H5 dW (.dK k0)) dF (.dK []) dW = some (.dK k0):=upd_old hF upd_same
      have hF0:upd (upd H5 dW (.dK k0)) dF (.dK []) dF = some (.dK []):=upd_same
      have s50:Same H5 (upd (upd H5 dW (.dK k0)) dF (.dK [])):=(Same.new hW).trans (Same.new hF)
      have bes5:=bes.sm ((s2.trans s3).trans (s4.trans s5))
      have tq5:=tq.sm FrQ.tk (s4.trans s5)
      have sH5:=s13.trans (s4.trans s5)
      have hFn:H5 dF = none:=by
        cases z:H5 dF with
        | none => rfl
        | some o => rw [upd_ne (Ne.symm hWF),z] at hF; cases hF
      have hBW:dB ≠ dW /\ dB ≠ dF:=by
        obtain ⟨kvs,f,z1,_⟩:=bes5
        exact ⟨ne_of_none z1 hW,ne_of_none z1 hFn⟩
      have hTW:dT ≠ dW /\ dT ≠ dF:=by
        obtain ⟨kvs,z1,_⟩:=tq5
        exact ⟨ne_of_none z1 hW,ne_of_none z1 hFn⟩
      have hWn:H dW = none:=by
        cases z:H dW with
        | none => rfl
        | some o => rw [sH5 _ _ z] at hW; cases hW
      have hFn':H dF = none:=by
        cases z:H dF with
        | none => rfl
        | some o => rw [sH5 _ _ z] at hFn; cases hFn
      have bes0:=bes5.sm s50
      have tq0:=tq5.sm FrQ.tk s50
      have net0:=hnet.sm (sH5.trans s50)
      have sH0:=sH5.trans s50
      have kq00:=kq0.imp (H':=upd (upd H5 dW (.dK k0)) dF (.dK [])) fun v b f => f.tk s50.tk
      generalize upd (upd H5 dW (.dK k0)) dF (.dK []) = H0 at *
      refine while_by (fun σ H1 => ∃ W F kW kF o8 o9 o10 o11,σ = [some (.ref l),some (.ref lp),some vt,some (.ref dB),some (.ref dT),some (.ref dP),some (.ref dW),some (.ref dF),o8,o9,o10,o11] /\ Kp2 dW dF H0 H1 /\ H1 dW = some (.dK kW) /\ KQ EntQ H1 kW W /\ H1 dF = some (.dK kF) /\ KQ EntQ H1 kF F /\ FInv net (aget (lst ps)) (tkOf ts) (fun _ _ _ => True) W F /\ (∀ x ∈ W,Bd DD (MM * (F.length + 1)) x.2.1) /\ ∀ x ∈ F,Bd DD (MM * F.length) x.2.1) (fun σ H1 => 1000 - (match H1 dF with | some (.dK kvs) => kvs.length | _ => 0)) ?_ ?_ ?_
      . refine ⟨_,_,k0,[],_,_,_,_,rfl,Kp2.refl _,hW0,kq00,hF0,.nil,FInv.start nd0 (fun p e he => ?_) (fun p t he => ?_),fun x hx => ?_,fun x hx => by simp at hx⟩
        . obtain ⟨y,hy,e2⟩:=List.mem_map.mp he
          cases e2
          exact ⟨rfl,aget_of (lst_nd ps) hy⟩
        . exact List.mem_map.mpr ⟨(p,t),aget_mem he,rfl⟩
        . obtain ⟨y,hy,rfl⟩:=List.mem_map.mp hx
          exact (hps.bd y (lst_mem hy)).mono (by simp)
      . rintro σ H1 ⟨W,F,kW,kF,o8,o9,o10,o11,rfl,kp1,hW1,qW,hF1,qF,I,bW,bF⟩
        have hl:=hnet.len
        have hlens:=I.lens
        walk_at "go"
        refine t_dictI hW1 (fun hne => ?_) (fun hnil => ?_)
        . walk_at "go"
          have hWne:W ≠ []:=fun z => hne (List.length_eq_zero_iff.mp (by rw [qW.len,z]; rfl))
          have szW:∀ {m:Nat} {t:Rat},m <= 1000 -> Bd DD (MM * m) t -> Sz 8000 t:=fun hm hb => hR.sz hb (Nat.mul_le_mul_left _ hm)
          refine ⟨dW,W,rfl,⟨kW,hW1,qW⟩,I.ndW,fun x hx => szW (by omega) (bW x hx),hWne,fun p e hp hmin => ?_⟩
          walk_at "go"
          have hagW:aget W p = some e:=aget_of I.ndW hp
          obtain ⟨v1,e1,f1⟩:∃ v1,valV kW p = some v1 /\ EntQ H1 v1 e:=by
            rcases qW.val (k:=p) with ⟨_,e2⟩ | ⟨v1,r1,e1,e2,f1⟩
            . rw [hagW] at e2
              cases e2
            . rw [hagW] at e2
              cases e2
              exact ⟨v1,e1,f1⟩
          refine ⟨dW,rfl,.inl ⟨kW,.inl hW1⟩,?_⟩
          walk_at "go"
          refine ⟨kW,p,v1,hW1,rfl,e1,?_⟩
          walk_at "go"
          have hF1':upd H1 dW (.dK (dropK kW p)) dF = some (.dK kF):=upd_not (Ne.symm hWF) hF1
          have hkF:kF.length <= 1000:=by
            have:=qF.len
            omega
          refine r_dPk hF1' hkF ?_
          have hpF:p ∉ F.map (·.1):=I.dis p (List.mem_map.mpr ⟨_,hp,rfl⟩)
          have tkd:TK H1 (upd (upd H1 dW (.dK (dropK kW p))) dF (.dK (putK kF p v1))):=(TK.dic hW1).trans (TK.dic hF1')
          have qW2:KQ EntQ (upd (upd H1 dW (.dK (dropK kW p))) dF (.dK (putK kF p v1))) (dropK kW p) (adrop W p):=(qW.drop).imp fun v b f => f.tk tkd
          have qF2:KQ EntQ (upd (upd H1 dW (.dK (dropK kW p))) dF (.dK (putK kF p v1))) (putK kF p v1) (F ++ [(p,e)]):=by
            rw [← aput_none hpF]
            exact (qF.put f1).imp fun v b f => f.tk tkd
          have kp2:Kp2 dW dF H0 (upd (upd H1 dW (.dK (dropK kW p))) dF (.dK (putK kF p v1))):=(kp1.trans Kp2.l).trans Kp2.r
          have hW2:upd (upd H1 dW (.dK (dropK kW p))) dF (.dK (putK kF p v1)) dW = some (.dK (dropK kW p)):=upd_not hWF upd_same
          have hF2:upd (upd H1 dW (.dK (dropK kW p))) dF (.dK (putK kF p v1)) dF = some (.dK (putK kF p v1)):=upd_same
          have hFlen:(putK kF p v1).length = F.length + 1:=by rw [qF2.len]; simp
          generalize putK kF p v1 = kF2 at *
          generalize dropK kW p = kW2 at *
          generalize upd (upd H1 dW (.dK kW2)) dF (.dK kF2) = H2' at *
          walk_at "go"
          refine ⟨dB,rfl,.inl ⟨_,.inl (bes0.k2 kp2 hW0 hF0 hBW.1 hBW.2).choose_spec.choose_spec.1⟩,?_⟩
          walk_at "go"
          refine r_lstK fun z0 hz0 => ?_
          walk_at "go"
          have kp3:Kp2 dW dF H0 (upd H2' z0 (.lst [])):=kp2.trans (Same.new hz0).kp2
          have hW3:upd H2' z0 (.lst []) dW = some (.dK kW2):=upd_old hz0 hW2
          have hF3:upd H2' z0 (.lst []) dF = some (.dK kF2):=upd_old hz0 hF2
          have qW3:KQ EntQ (upd H2' z0 (.lst [])) kW2 (adrop W p):=qW2.imp fun v b f => f.tk (TK.new hz0)
          have qF3:KQ EntQ (upd H2' z0 (.lst [])) kF2 (F ++ [(p,e)]):=qF2.imp fun v b f => f.tk (TK.new hz0)
          refine r_besG (bes0.k2 kp3 hW0 hF0 hBW.1 hBW.2) upd_same fun lb L lqL hLl hL => ?_
          generalize upd H2' z0 (.lst []) = H3' at *
          obtain ⟨xs,hxs,pxs⟩:=lqL
          refine r_listK (SqL.of hxs) ?_
          have hxl:=Paired.length pxs
          have hle:∀ w ∈ F ++ [(p,e)],w.2.1 <= e.1:=fun w hw => by
            rcases List.mem_append.mp hw with hw | hw
            . exact I.mono w hw _ hp
            . rw [List.mem_singleton] at hw
              subst hw
              exact Rat.le_refl
          have hpe:(p,e) ∈ F ++ [(p,e)]:=List.mem_append_right _ (by simp)
          have be:Bd DD (MM * (F.length + 1)) e.1:=bW _ hp
          refine r_forLo (xs:=xs) (fun i σ G => ∃ W' kW' o9 o10 o11,σ = [some (.ref l),some (.ref lp),some vt,some (.ref dB),some (.ref dT),some (.ref dP),some (.ref dW),some (.ref dF),some (kV p),o9,o10,o11] /\ Kp2 dW dF H0 G /\ Kp2 dW dF H3' G /\ G dW = some (.dK kW') /\ KQ EntQ G kW' W' /\ G dF = some (.dK kF2) /\ KQ EntQ G kF2 (F ++ [(p,e)]) /\ FInv net (aget (lst ps)) (tkOf ts) (fun q j y => q ≠ p ∨ (j,y) ∈ L.take i) W' (F ++ [(p,e)]) /\ ∀ x ∈ W',Bd DD (MM * (F.length + 2)) x.2.1) ?_ ?_ ?_ ?_
          . refine ⟨_,_,_,_,_,rfl,kp3,Kp2.refl _,hW3,qW3,hF3,qF3,I.pop hp hmin fun q k x hc => hc.elim id fun z => by simp at z,fun x hx => (bW x (mem_adrop.mp hx).1).mono (Nat.mul_le_mul_left _ (by omega))⟩
          . rintro i σ G _ ⟨W',kW',o9',o10',o11',rfl,k0',k3',_⟩
            exact SqL.of (k3'.lst hW3 hF3 hxs)
          . intro P' rt' bk' hP'
            rintro i x σ G hx ⟨W',kW',o9',o10',o11',rfl,k0',k3',gW,qW',gF,qF',I',bW'⟩
            have hi:i < L.length:=by
              have:=(List.getElem?_eq_some_iff.mp hx).1
              omega
            obtain ⟨y,hy,t0,rfl,ht0⟩:=Paired.at pxs hx
            obtain ⟨j,xk⟩:=y
            have hy2:L[i] = (j,xk):=by
              rw [List.getElem?_eq_getElem hi] at hy
              exact Option.some.inj hy
            have ht1:=k3'.tk hW3 hF3 _ _ ht0
            obtain ⟨r,hr,hj⟩:=(hL j xk).mp (List.mem_of_getElem? hy)
            have hrm:r ∈ net:=List.mem_of_getElem? hr
            have htake:∀ q jj yy,(q ≠ p ∨ (jj,yy) ∈ L.take (i + 1)) -> (q ≠ p ∨ (jj,yy) ∈ L.take i) ∨ (q = p /\ jj = j /\ yy = xk):=fun q jj yy h => by
              by_cases hq:q = p
              . rcases h with h | h
                . exact .inl (.inl h)
                . rw [List.take_succ_eq_append_getElem hi,hy2] at h
                  rcases List.mem_append.mp h with h | h
                  . exact .inl (.inr h)
                  . rw [List.mem_singleton] at h
                    cases h
                    exact .inr ⟨hq,rfl,rfl⟩
              . exact .inl (.inl hq)
            have hbm:Bd DD (MM * (F.length + 2)) (e.1 + r.2.2):=(be.add hR.ne (hnet.bd r hrm)).mono (by rw [Nat.mul_add,Nat.mul_add]; omega)
            have fin1:∀ σ2 G2,Same G G2 -> (∃ o9 o10 o11,σ2 = [some (.ref l),some (.ref lp),some vt,some (.ref dB),some (.ref dT),some (.ref dP),some (.ref dW),some (.ref dF),some (kV p),o9,o10,o11]) -> (xk ∈ (F ++ [(p,e)]).map (·.1) ∨ ¬ NotOut (tkOf ts) j (e.1 + r.2.2) ∨ ∃ u,(xk,u) ∈ W' /\ u.1 <= e.1 + r.2.2) -> ∃ W' kW' o9 o10 o11,σ2 = [some (.ref l),some (.ref lp),some vt,some (.ref dB),some (.ref dT),some (.ref dP),some (.ref dW),some (.ref dF),some (kV p),o9,o10,o11] /\ Kp2 dW dF H0 G2 /\ Kp2 dW dF H3' G2 /\ G2 dW = some (.dK kW') /\ KQ EntQ G2 kW' W' /\ G2 dF = some (.dK kF2) /\ KQ EntQ G2 kF2 (F ++ [(p,e)]) /\ FInv net (aget (lst ps)) (tkOf ts) (fun q j y => q ≠ p ∨ (j,y) ∈ L.take (i + 1)) W' (F ++ [(p,e)]) /\ ∀ x ∈ W',Bd DD (MM * (F.length + 2)) x.2.1:=by
              rintro σ2 G2 sg ⟨o9,o10,o11,rfl⟩ hc
              exact ⟨W',kW',_,_,_,rfl,k0'.trans sg.kp2,k3'.trans sg.kp2,sg _ _ gW,qW'.imp fun v b f => f.tk sg.tk,sg _ _ gF,qF'.imp fun v b f => f.tk sg.tk,I'.turn hpe hr hj hle (hnet.pos r hrm) htake (.inl ⟨rfl,hc⟩),bW'⟩
            have fin2:∀ σ2 G1 t3 vm,Same G G1 -> G1 t3 = none -> FrQ G1 vm (e.1 + r.2.2) -> (∃ o9 o10 o11,σ2 = [some (.ref l),some (.ref lp),some vt,some (.ref dB),some (.ref dT),some (.ref dP),some (.ref dW),some (.ref dF),some (kV p),o9,o10,o11]) -> (xk ∉ (F ++ [(p,e)]).map (·.1) /\ NotOut (tkOf ts) j (e.1 + r.2.2) /\ ∀ u,(xk,u) ∈ W' -> e.1 + r.2.2 <= u.1) -> (fun G2 => ∃ W' kW' o9 o10 o11,σ2 = [some (.ref l),some (.ref lp),some vt,some (.ref dB),some (.ref dT),some (.ref dP),some (.ref dW),some (.ref dF),some (kV p),o9,o10,o11] /\ Kp2 dW dF H0 G2 /\ Kp2 dW dF H3' G2 /\ G2 dW = some (.dK kW') /\ KQ EntQ G2 kW' W' /\ G2 dF = some (.dK kF2) /\ KQ EntQ G2 kF2 (F ++ [(p,e)]) /\ FInv net (aget (lst ps)) (tkOf ts) (fun q j y => q ≠ p ∨ (j,y) ∈ L.take (i + 1)) W' (F ++ [(p,e)]) /\ ∀ x ∈ W',Bd DD (MM * (F.length + 2)) x.2.1) (upd (upd G1 t3 (.tup [vm,.int j,kV p])) dW (.dK (putK kW' xk (.ref t3)))):=by
              rintro σ2 G1 t3 vm sg hn3 fm ⟨o9,o10,o11,rfl⟩ ⟨c1,c2,c3⟩
              have sg2:=sg.trans (Same.new (o:=.tup [vm,.int j,kV p]) hn3)
              have gW2:=sg2 _ _ gW
              have tkw:TK (upd G1 t3 (.tup [vm,.int j,kV p])) (upd (upd G1 t3 (.tup [vm,.int j,kV p])) dW (.dK (putK kW' xk (.ref t3)))):=TK.dic gW2
              have tk3:=sg2.tk.trans tkw
              refine ⟨aput W' xk (e.1 + r.2.2,some (j,p)),putK kW' xk (.ref t3),_,_,_,rfl,(k0'.trans sg2.kp2).trans Kp2.l,(k3'.trans sg2.kp2).trans Kp2.l,upd_same,?_,upd_not (Ne.symm hWF) (sg2 _ _ gF),qF'.imp fun v b f => f.tk tk3,I'.turn hpe hr hj hle (hnet.pos r hrm) htake (.inr ⟨c1,c2,c3,rfl⟩),fun x hx => ?_⟩
              . exact (qW'.imp fun v b f => f.tk tk3).put ⟨t3,vm,rfl,tkw _ _ upd_same,(fm.tk (TK.new hn3)).tk tkw⟩
              . obtain ⟨x1,x2⟩:=x
                rcases mem_aput hx with ⟨_,rfl⟩ | ⟨_,h⟩
                . exact hbm
                . exact bW' _ h
            replace fin1:=fun σ2 G2 a b c => hP' _ _ _ (fin1 σ2 G2 a b c)
            replace fin2:=fun σ2 G1 t3 vm a b c d e => hP' _ _ _ (fin2 σ2 G1 t3 vm a b c d e)
            have hagF:aget (F ++ [(p,e)]) p = some e:=aget_of I'.ndF hpe
            obtain ⟨ve,e3,pe,ue,rfl,hpe2,fe⟩:∃ v1,valV kF2 p = some v1 /\ EntQ G v1 e:=by
              rcases qF'.val (k:=p) with ⟨_,e2⟩ | ⟨v1,r1,e1,e2,f1⟩
              . rw [hagF] at e2
                cases e2
              . rw [hagF] at e2
                cases e2
                exact ⟨v1,e1,f1⟩
            obtain ⟨vn,hvn,pvn⟩:=net0.lq
            have hvnG:=k0'.lst hW0 hF0 hvn
            obtain ⟨vr,hvr,pr0,ur,rfl,hpr0,fr0⟩:=Pd.get pvn hr
            have tk0:=k0'.tk hW0 hF0
            have hprG:=tk0 _ _ hpr0
            have frG:=fr0.tk tk0
            walk_at "go"
            refine r_dGk (.inl gF) e3 ?_
            walk_at "go"
            refine r_ixl hvnG (atI_nat hvr) ?_
            walk_at "go"
            refine ⟨ue,ur,e.1,r.2.2,rfl,fe,frG,szW (by omega) be,hR.sz (hnet.bd r hrm) (by omega),fun vm G2 fm sg => ?_⟩
            walk_at "go"
            have gF2:=sg _ _ gF
            have gW2:=sg _ _ gW
            refine r_dIk (.inl gF2) ?_
            have szm:Sz 8000 (e.1 + r.2.2):=szW (by omega) hbm
            rcases qF'.val (k:=xk) with ⟨e4,e5⟩ | ⟨v4,r4,e4,e5,f4⟩
            . rw [e4]
              walk_at "go"
              have hnF:xk ∉ (F ++ [(p,e)]).map (·.1):=aget_nokey e5
              obtain ⟨kT,gT,qT⟩:=tq0
              have gT2:G2 dT = some (.dK kT):=sg _ _ (k0' _ _ hTW.1 hTW.2 gT)
              refine ⟨dT,lst ts,j,vm,e.1 + r.2.2,rfl,⟨kT,gT2,qT.imp fun v b f => (f.tk tk0).tk sg.tk⟩,fm,fun x hx => hts.sz x (lst_mem hx),szm,?_⟩
              have hout:outB (lst ts) j (e.1 + r.2.2) = true /\ ¬ NotOut (tkOf ts) j (e.1 + r.2.2) ∨ outB (lst ts) j (e.1 + r.2.2) = false /\ NotOut (tkOf ts) j (e.1 + r.2.2):=by
                unfold outB NotOut tkOf
                cases aget (lst ts) (Sum.inl (j:Int)) with
                | none => exact .inr ⟨rfl,fun u e => nomatch e⟩
                | some u =>
                  by_cases c:u < e.1 + r.2.2
                  . exact .inl ⟨decide_eq_true c,fun h => Rat.not_le.mpr c (h u rfl)⟩
                  . exact .inr ⟨decide_eq_false c,fun u' e => by cases e; exact Rat.not_lt.mp c⟩
              rcases hout with ⟨ho,hno⟩ | ⟨ho,hno⟩
              . rw [ho]
                walk_at "go"
                exact fin1 _ G2 sg ⟨_,_,_,rfl⟩ (.inr (.inl hno))
              . rw [ho]
                walk_at "go"
                refine r_dNk (.inl gW2) ?_
                have hkW:kW'.length <= 1000:=by
                  have h1:=qW'.len
                  have h2:=I'.lens
                  omega
                rcases qW'.val (k:=xk) with ⟨e6,e7⟩ | ⟨v6,r6,e6,e7,p6,u6,rfl,h6,f6⟩
                . rw [e6]
                  walk_at "go"
                  refine r_tupK fun t3 ht3 => ?_
                  walk_at "go"
                  refine r_dPk (upd_old ht3 gW2) hkW ?_
                  walk_at "go"
                  exact fin2 _ G2 t3 vm sg ht3 fm ⟨_,_,_,rfl⟩ ⟨hnF,hno,fun u hu => absurd hu (aget_none e7 u)⟩
                . rw [e6]
                  have h62:=sg.tk _ _ h6
                  walk_at "go"
                  refine r_dGk (.inl gW2) e6 ?_
                  walk_at "go"
                  have hm6:=aget_mem e7
                  refine ⟨vm,u6,e.1 + r.2.2,r6.1,rfl,fm,f6.tk sg.tk,szm,szW (by omega) (bW' _ hm6),?_⟩
                  walk_at "go"
                  refine i_d (fun c => ?_) (fun c => ?_)
                  . walk_at "go"
                    refine r_tupK fun t3 ht3 => ?_
                    walk_at "go"
                    refine r_dPk (upd_old ht3 gW2) hkW ?_
                    walk_at "go"
                    refine fin2 _ G2 t3 vm sg ht3 fm ⟨_,_,_,rfl⟩ ⟨hnF,hno,fun u hu => ?_⟩
                    have:=Option.some.inj ((aget_of I'.ndW hu).symm.trans e7)
                    subst this
                    exact Rat.le_of_lt c
                  . walk_at "go"
                    exact fin1 _ G2 sg ⟨_,_,_,rfl⟩ (.inr (.inr ⟨r6,hm6,Rat.not_lt.mp c⟩))
            . rw [e4]
              walk_at "go"
              exact fin1 _ G2 sg ⟨_,_,_,rfl⟩ (.inl (List.mem_map.mpr ⟨_,aget_mem e5,rfl⟩))
          . rintro σ G ⟨W',kW',o9',o10',o11',rfl,k0',k3',gW,qW',gF,qF',I',bW'⟩
            rw [hxl,List.take_length] at I'
            refine ⟨⟨W',F ++ [(p,e)],kW',kF2,_,_,_,_,rfl,k0',gW,qW',gF,qF',I'.imp fun q k x r h1 h2 _ => ?_,fun x hx => ?_,fun x hx => ?_⟩,?_⟩
            . by_cases hq:q = p
              . subst hq
                exact .inr ((hL k x).mpr ⟨r,h1,h2⟩)
              . exact .inl hq
            . rw [List.length_append]
              exact bW' x hx
            . rw [List.length_append]
              rcases List.mem_append.mp hx with hx | hx
              . exact (bF x hx).mono (Nat.mul_le_mul_left _ (by simp))
              . rw [List.mem_singleton] at hx
                subst hx
                exact be
            . have hql:=qF.len
              simp only [gF,hF1]
              omega
        . have hWnil:W = []:=List.length_eq_zero_iff.mp (by rw [← qW.len,hnil]; rfl)
          subst hWnil
          walk_at "go"
          refine q dF H1 F hFn' (kp1.same sH0 hWn hFn') ⟨kF,hF1,qF⟩ I.done hlens.2 fun x hx => (bF x hx).mono (Nat.mul_le_mul_left _ (by omega))
      . rintro σ H Q Q' h ⟨v,e,k,t,b⟩
        exact ⟨v,e,k,t,h _ _ b⟩
theorem ok_fall_moments (T:Bl mg) (d:DfD K mg "fall_moments" s_fall_moments ["net","pushes","takings"] [.non] ) (o_posts_of:Okf P w K mg base k "posts_of" ["net"] (spPosts w)) (o_falls_of:OkfD P w K mg base k "falls_of" ["net","pushes","takings"] [.non] spFls):OkfD P w K mg base (k + 1) "fall_moments" ["net","pushes","takings"] [.non] (spFm w):=by
  refine OkfD.of d sc_fall_moments (fun vs H Q E h => ?_) (fun f cdv A outer s H vs Q E hr h => ?_)
  . obtain ⟨l,n,lp,ps,vt,ts,DD,MM,U,rfl,_⟩:=h
    rfl
  . obtain ⟨l,n,lp,ps,vt,ts,DD,MM,U,rfl,hnet,hps,hts,hR,hU,hUn,q⟩:=h
    refine ⟨_,(@pss_cons _ _ _ _ _ (@ps_set _ _ (i:=3) _ _ _ _ sc_fall_moments.nd rfl (by first | exact Or.inl rfl | exact Or.inr rfl) (@pe_callO _ _ _ _ _ _ _ _ _ _ o_falls_of.f hr rfl (@pa_cons _ _ _ _ _ (pv 0) (@pa_cons _ _ _ _ _ (pv 1) (@pa_cons _ _ _ _ _ (pv 2) (@pa_nil _) (by rfl)) (by rfl)) (by rfl)) (by decide) (by rfl) (by rfl)) (by rfl) (by first | exact .inl rfl | exact .inr rfl | assumption)) (@pss_one _ _ _ (@ps_ret _ _ _ _ (@pe_callTy _ _ _ _ _ _ _ _ _ (call_dictP rfl) rfl T.z_dict bt_dict (@pa_cons _ _ _ _ _ (@pe_comp _ _ _ _ _ _ _ _ _ _ _ _ _ _ (@comp_ck _ _ (sc:=defScope s_fall_moments) (N:=["net","pushes","takings","fallen"]) (tn:=["post"]) (names:=["fallen"]) (is:=[3]) rfl rfl (by decide +kernel) (by decide +kernel) rfl (by decide +kernel) rfl (by decide +kernel) (by decide +kernel) (by decide +kernel)) rfl (@pi_list _ _ _ _ (@pe_callO _ _ _ _ _ _ _ _ _ _ o_posts_of hr rfl (@pa_cons _ _ _ _ _ (pv 0) (@pa_nil _) (by rfl)) (by decide) (by rfl) (by rfl))) (fun _ _ _ _ => (@pg_name _ _ (i:=0) _ (show (["post","fallen"]:List Str).Nodup by decide +kernel) rfl (Or.inl rfl) (Or.inr rfl))) (fun _ _ _ _ => (@pe_tup _ _ _ _ _ (@pa_cons _ _ _ _ _ (pv 0) (@pa_cons _ _ _ _ _ (@pe_ifExp _ _ _ _ _ _ _ _ (@pt_cmp _ _ _ _ _ _ (@pc_din _ _ _ _ _ hr.u1 (pv 0) (pv 1)) (by first | exact nobehind _ (by decide) (by decide) | rfl)) (@pe_ix _ _ _ _ _ _ _ ix_LTc (@pe_dget _ _ _ _ _ _ hr.u1 (pv 1) (pv 0) (fun _ _ => rfl)) (@pe_int _ _ _ _) (fun _ _ => rfl)) (@pe_non _ _ _)) (@pa_nil _) (by rfl)) (by rfl)))) (fun _ _ _ _ => (@pts_none _)) (by intro _; rfl)) (@pa_nil _) (by rfl)) (by decide) (by decide) (by rfl) (by rfl))))),?_⟩
    try dsimp only [cxK_nox,cxK_of]
    walk_at "go"
    refine ⟨l,kn n,lp,ps,vt,ts,DD,MM,rfl,hnet,hps,hts,hR,fun dF H1 F hF s1 fq fo hFl bF => ?_⟩
    walk_at "go"
    refine ⟨l,n,U,rfl,(hnet.sm s1).lq,by have:=hnet.len; simpa [kn] using this,hU,hUn,fun lq H2 ys hlq s2 hys srt nd mem => ?_⟩
    walk_at "go"
    refine r_listK (SqL.of hys) ?_
    obtain ⟨kF,hkF,qF⟩:=fq
    have hyl:ys.length < 64:=Nat.lt_of_le_of_lt (nd_len nd fun x hx => hUn x ((mem x).mp hx)) hU
    refine r_compL (xs:=ys.map V.str) (by rw [List.length_map]; omega) (fun acc i zs G => Kp acc H2 G /\ Paired (fun v (x:Key×Option Rat) => ∃ a u,v = .ref a /\ G a = some (.tup [kV x.1,u]) /\ OptQ G u x.2) zs ((ys.map fun y => (Sum.inr y,momOf F (Sum.inr y))).take i)) (fun acc h0 => ⟨Kp.new h0,.nil⟩) ?_ ?_ ?_
    . intro acc i zs G h0 _ ⟨kp,_⟩
      exact SqL.of (kp _ _ (ne_of_none hys h0) hys)
    . intro acc i zs G x h0 hx hzl hG ⟨kp,pr⟩
      rw [List.getElem?_map] at hx
      cases hy:ys[i]? with
      | none => rw [hy] at hx; cases hx
      | some y =>
        rw [hy] at hx
        cases (Option.some.inj hx:V.str y = x)
        have hi:i < ys.length:=(List.getElem?_eq_some_iff.mp hy).1
        have hkF2:=s2 _ _ hkF
        have hkFG:G dF = some (.dK kF):=kp _ _ (ne_of_none hkF2 h0) hkF2
        have tkG:TK H1 G:=s2.tk.trans fun p xs h => kp _ _ (ne_of_none h h0) h
        have fin:∀ G1 u t1,Same G G1 -> G1 t1 = none -> OptQ G1 u (momOf F (Sum.inr y)) -> cNext (ys.map V.str).length acc (fun i zs G => Kp acc H2 G /\ Paired (fun v (x:Key×Option Rat) => ∃ a u,v = .ref a /\ G a = some (.tup [kV x.1,u]) /\ OptQ G u x.2) zs ((ys.map fun y => (Sum.inr y,momOf F (Sum.inr y))).take i)) zs i (.ref t1) (upd G1 t1 (.tup [.str y,u])):=fun G1 u t1 sg ht ou => by
          have hG2:=upd_old (o:=.tup [.str y,u]) ht (sg _ _ hG)
          refine c_next (by rw [List.length_map]; exact hi) hzl hG2 ⟨Kp.trans (Kp.trans kp (fun b o _ h => upd_old ht (sg _ _ h))) Kp.upd,?_⟩
          have tk:TK (upd G1 t1 (.tup [.str y,u])) (upd (upd G1 t1 (.tup [.str y,u])) acc (.lst (zs ++ [.ref t1]))):=TK.lst hG2
          have tk2:=(sg.tk.trans (TK.new (o:=.tup [.str y,u]) ht)).trans tk
          have hi':i < (ys.map fun y => ((Sum.inr y:Key),momOf F (Sum.inr y))).length:=by rw [List.length_map]; exact hi
          rw [List.take_succ_eq_append_getElem hi']
          have:(ys.map fun y => ((Sum.inr y:Key),momOf F (Sum.inr y)))[i] = (Sum.inr y,momOf F (Sum.inr y)):=by
            rw [List.getElem_map]
            rw [List.getElem?_eq_getElem hi] at hy
            rw [Option.some.inj hy]
          rw [this]
          exact Pd.snoc (Pd.imp pr fun v x ⟨a,u,e,h,f⟩ => ⟨a,u,e,tk2 _ _ h,f.tk tk2⟩) ⟨t1,u,rfl,tk _ _ upd_same,(ou.tk (TK.new ht)).tk tk⟩
        walk_at "go"
        refine r_dIs (.inl hkFG) ?_
        rcases qF.val (k:=Sum.inr y) with ⟨e1,e2⟩ | ⟨v1,r1,e1,e2,p1,u1,rfl,h1,f1⟩
        . rw [e1]
          walk_at "go"
          refine r_tupK fun t1 ht1 => ?_
          refine fin G .non t1 (Same.refl _) ht1 ?_
          unfold momOf
          rw [e2]
          rfl
        . rw [e1]
          walk_at "go"
          refine r_dGs (.inl hkFG) e1 ?_
          have h1G:=tkG _ _ h1
          walk_at "go"
          refine r_tupK fun t1 ht1 => ?_
          refine fin G u1 t1 (Same.refl _) ht1 ?_
          unfold momOf
          rw [e2]
          exact f1.tk tkG
    . intro acc zs G h0 hG hzl ⟨kp,pr⟩
      have hlW:(ys.map V.str).length = (ys.map fun y => ((Sum.inr y:Key),momOf F (Sum.inr y))).length:=by simp
      rw [hlW,List.take_length] at pr
      obtain ⟨k0,pa,kq0⟩:=pairs_of pr
      walk_at "go"
      rw [List.length_map] at hzl
      refine ⟨acc,zs,k0,rfl,hG,pa,by omega,fun dR hdR => ?_⟩
      have nd0:((ys.map fun y => ((Sum.inr y:Key),momOf F (Sum.inr y))).map (·.1)).Nodup:=by
        rw [List.map_map]
        exact List.pairwise_map.mpr (nd.imp fun h e => h (Sum.inr.inj e))
      rw [mergeK_nd (by rw [List.nil_append,kq0.keys]; exact nd0),List.nil_append]
      walk_at "go"
      have sG:Same H G:=fun b o hb => by
        have h2:=s2 _ _ (s1 _ _ hb)
        exact kp _ _ (ne_of_none h2 h0) h2
      refine q dR _ F ys ?_ (sG.trans (Same.new hdR)) ⟨k0,upd_same,kq0.imp fun v b f => f.tk (TK.new hdR)⟩ fo bF srt nd mem
      cases z:H dR with
      | none => rfl
      | some o => rw [sG _ _ z] at hdR; cases hdR
theorem ok_share_passed (T:Bl mg) (d:Df K mg "share_passed" s_share_passed ["fell","time","moment"]  ) (o_lessened:Okf P w K mg base k "lessened" ["one","other"] spLesQ) (o_divided:Okf P w K mg base k "divided" ["one","other"] spDivQ) (o_is_less:Okf P w K mg base k "is_less" ["one","other"] spLessQ):Okf P w K mg base (k + 1) "share_passed" ["fell","time","moment"] spShr:=by
  refine Okf.of d sc_share_passed (fun vs H Q E h => ?_) (fun f cdv A outer s H vs Q E hr h => ?_)
  . obtain ⟨vf,vT,vm,o,T,m,rfl,_⟩:=h
    rfl
  . obtain ⟨vf,vT,vm,o,T,m,rfl,of,fT,fm,hT,zT,zm,zo,q⟩:=h
    refine ⟨_,(@pss_cons _ _ _ _ _ (@ps_if _ _ _ _ _ _ _ _ (@PW.pt _ _ _ (@pw_or _ _ _ _ _ _ _ (@pt_cmpR _ _ _ _ _ _ _ _ op_isN2 (pv 0) (@pe_non _ _ _) (nomark _)) (@pw_or1 _ _ _ _ (@pt_val _ _ _ (@pe_callO _ _ _ _ _ _ _ _ _ _ o_is_less hr rfl (@pa_cons _ _ _ _ _ (pv 2) (@pa_cons _ _ _ _ _ (pv 0) (@pa_nil _) (by rfl)) (by rfl)) (by decide) (by rfl) (by rfl)) (by intro _; rfl))))) (@pss_one _ _ _ (@ps_ret _ _ _ _ (@pe_tup _ _ _ _ _ (@pa_cons _ _ _ _ _ (@pe_int _ _ _ _) (@pa_cons _ _ _ _ _ (@pe_int _ _ _ _) (@pa_nil _) (by rfl)) (by rfl))))) (@pss_nil _)) (@pss_one _ _ _ (@ps_ret _ _ _ _ (@pe_callO _ _ _ _ _ _ _ _ _ _ o_divided hr rfl (@pa_cons _ _ _ _ _ (@pe_callO _ _ _ _ _ _ _ _ _ _ o_lessened hr rfl (@pa_cons _ _ _ _ _ (pv 2) (@pa_cons _ _ _ _ _ (pv 0) (@pa_nil _) (by rfl)) (by rfl)) (by decide) (by rfl) (by rfl)) (@pa_cons _ _ _ _ _ (pv 1) (@pa_nil _) (by rfl)) (by rfl)) (by decide) (by rfl) (by rfl))))),?_⟩
    try dsimp only [cxK_nox,cxK_of]
    cases o with
    | none =>
      cases (show vf = .non from of)
      walk_at "go"
      refine r_tupK fun p hp => ?_
      walk_at "go"
      exact q _ _ ⟨p,rfl,upd_same⟩ (Same.new hp)
    | some f =>
      have zf:=zo f rfl
      obtain ⟨pf,rfl,hf⟩:=id (show FrQ H vf f from of)
      walk_at "go"
      refine ⟨vm,.ref pf,m,f,rfl,fm,of,zm.mono (by decide),zf.mono (by decide),?_⟩
      walk_at "go"
      refine i_d (fun c => ?_) (fun c => ?_)
      . walk_at "go"
        refine r_tupK fun p hp => ?_
        walk_at "go"
        refine q _ _ ?_ (Same.new hp)
        rw [show shr (some f) T m = 0 from if_pos c]
        exact ⟨p,rfl,upd_same⟩
      . walk_at "go"
        refine ⟨vm,.ref pf,m,f,rfl,fm,of,zm.mono (by decide),zf.mono (by decide),fun v H1 fv s1 => ?_⟩
        walk_at "go"
        refine ⟨v,vT,m - f,T,rfl,fv,fT.tk s1.tk,(Sz.sub zm zf).mono (by decide),zT.mono (by decide),hT,fun w H2 fw s2 => ?_⟩
        walk_at "go"
        refine q w H2 ?_ (s1.trans s2)
        rw [show shr (some f) T m = (m - f) / T from if_neg c]
        exact fw
set_option maxHeartbeats 0 in
theorem ok_standing_by (T:Bl mg) (d:Df K mg "standing_by" s_standing_by ["run","moments","taken","moment"]  ) (o_is_less:Okf P w K mg base k "is_less" ["one","other"] spLessQ) (o_share_passed:Okf P w K mg base k "share_passed" ["fell","time","moment"] spShr) (o_lessened:Okf P w K mg base k "lessened" ["one","other"] spLesQ):Okf P w K mg base (k + 1) "standing_by" ["run","moments","taken","moment"] spStBy:=by
  refine Okf.of d sc_standing_by (fun vs H Q E h => ?_) (fun f cdv A outer s H vs Q E hr h => ?_)
  . obtain ⟨pr,dd,vt,vm,a,b,u,T,m,kd,oa,ob,tk,va,vb,rfl,_⟩:=h
    rfl
  . obtain ⟨pr,dd,vt,vm,a,b,u,T,m,kd,oa,ob,tk,va,vb,rfl,hpr,fT,hd,ea,qa,eb,qb,ot,fm,hT,zT,zm,za,zb,zt,q⟩:=h
    refine ⟨_,(@pss_cons _ _ _ _ _ (@ps_if _ _ _ _ _ _ _ _ (@PW.pt _ _ _ (@pw_and _ _ _ _ _ _ _ (@pt_cmpR _ _ _ _ _ _ _ _ op_notN2 (pv 2) (@pe_non _ _ _) (nomark _)) (@pw_and1 _ _ _ _ (@pt_not _ _ _ _ (@pt_val _ _ _ (@pe_callO _ _ _ _ _ _ _ _ _ _ o_is_less hr rfl (@pa_cons _ _ _ _ _ (pv 3) (@pa_cons _ _ _ _ _ (pv 2) (@pa_nil _) (by rfl)) (by rfl)) (by decide) (by rfl) (by rfl)) (by intro _; rfl)))))) (@pss_one _ _ _ (@ps_ret _ _ _ _ (@pe_non _ _ _))) (@pss_nil _)) (@pss_cons _ _ _ _ _ (@ps_set _ _ (i:=4) _ _ _ _ sc_standing_by.nd rfl (by first | exact Or.inl rfl | exact Or.inr rfl) (@pe_callO _ _ _ _ _ _ _ _ _ _ o_share_passed hr rfl (@pa_cons _ _ _ _ _ (@pe_dget _ _ _ _ _ _ hr.u1 (pv 1) (@pe_ix _ _ _ _ _ _ _ ix_LT (pv 0) (@pe_int _ _ _ _) (fun _ _ => rfl)) (fun _ _ => rfl)) (@pa_cons _ _ _ _ _ (@pe_ix _ _ _ _ _ _ _ ix_LT (pv 0) (@pe_int _ _ _ _) (fun _ _ => rfl)) (@pa_cons _ _ _ _ _ (pv 3) (@pa_nil _) (by rfl)) (by rfl)) (by rfl)) (by decide) (by rfl) (by rfl)) (by rfl) (by first | exact .inl rfl | exact .inr rfl | assumption)) (@pss_cons _ _ _ _ _ (@ps_set _ _ (i:=5) _ _ _ _ sc_standing_by.nd rfl (by first | exact Or.inl rfl | exact Or.inr rfl) (@pe_callO _ _ _ _ _ _ _ _ _ _ o_lessened hr rfl (@pa_cons _ _ _ _ _ (@pe_tup _ _ _ _ _ (@pa_cons _ _ _ _ _ (@pe_int _ _ _ _) (@pa_cons _ _ _ _ _ (@pe_int _ _ _ _) (@pa_nil _) (by rfl)) (by rfl))) (@pa_cons _ _ _ _ _ (@pe_callO _ _ _ _ _ _ _ _ _ _ o_share_passed hr rfl (@pa_cons _ _ _ _ _ (@pe_dget _ _ _ _ _ _ hr.u1 (pv 1) (@pe_ix _ _ _ _ _ _ _ ix_LT (pv 0) (@pe_int _ _ _ _) (fun _ _ => rfl)) (fun _ _ => rfl)) (@pa_cons _ _ _ _ _ (@pe_ix _ _ _ _ _ _ _ ix_LT (pv 0) (@pe_int _ _ _ _) (fun _ _ => rfl)) (@pa_cons _ _ _ _ _ (pv 3) (@pa_nil _) (by rfl)) (by rfl)) (by rfl)) (by decide) (by rfl) (by rfl)) (@pa_nil _) (by rfl)) (by rfl)) (by decide) (by rfl) (by rfl)) (by rfl) (by first | exact .inl rfl | exact .inr rfl | assumption)) (@pss_one _ _ _ (@ps_ret _ _ _ _ (@pe_ifExp _ _ _ _ _ _ _ _ (@pt_val _ _ _ (@pe_callO _ _ _ _ _ _ _ _ _ _ o_is_less hr rfl (@pa_cons _ _ _ _ _ (pv 4) (@pa_cons _ _ _ _ _ (pv 5) (@pa_nil _) (by rfl)) (by rfl)) (by decide) (by rfl) (by rfl)) (by intro _; rfl)) (@pe_tup _ _ _ _ _ (@pa_cons _ _ _ _ _ (pv 4) (@pa_cons _ _ _ _ _ (pv 5) (@pa_nil _) (by rfl)) (by rfl))) (@pe_non _ _ _))))))),?_⟩
    try dsimp only [cxK_nox,cxK_of]
    have sa:=shr_sz hT zT zm za
    have sb:=shr_sz hT zT zm zb
    have s1:Sz 10 1:=⟨by decide,by decide⟩
    refine r_seq ?_
    refine r_cut (fun σ G => σ = [some (.ref pr),some (.ref dd),some vt,some vm,none,none] /\ G = H /\ lateB tk m = false) ?_ ?_
    . rintro σ G ⟨rfl,rfl,hc⟩
      have est:stn oa ob tk T m = if shr oa T m < 1 - shr ob T m then some (shr oa T m,1 - shr ob T m) else none:=by
        unfold stn
        rw [hc,if_neg Bool.false_ne_true]
      rw [est] at q
      walk_at "go"
      refine r_dGs (.inl hd) ea ?_
      walk_at "go"
      refine ⟨va,u,vm,oa,T,m,rfl,qa,fT,fm,hT,zT,zm,za,fun v1 H1 f1 t1 => ?_⟩
      have hd1:=t1 _ _ hd
      have hpr1:=t1 _ _ hpr
      walk_at "go"
      refine r_tupK fun p1 hp1 => ?_
      have t2:=t1.trans (Same.new (o:=.tup [.int 1,.int 1]) hp1)
      have f2:FrQ (L2.upd H1 p1 (.tup [.int 1,.int 1])) v1 (shr oa T m):=f1.tk (TK.new hp1)
      have g1:FrQ (L2.upd H1 p1 (.tup [.int 1,.int 1])) (.ref p1) 1:=⟨p1,rfl,upd_same⟩
      generalize L2.upd H1 p1 (.tup [.int 1,.int 1]) = H2 at t2 f2 g1 ⊢
      have hd2:=t2 _ _ hd
      have hpr2:=t2 _ _ hpr
      walk_at "go"
      refine r_dGs (.inl hd2) eb ?_
      walk_at "go"
      refine ⟨vb,u,vm,ob,T,m,rfl,qb.tk t2.tk,fT.tk t2.tk,fm.tk t2.tk,hT,zT,zm,zb,fun v3 H3 f3 t3 => ?_⟩
      walk_at "go"
      refine ⟨.ref p1,v3,1,shr ob T m,rfl,g1.tk t3.tk,f3,s1.mono (by decide),sb.mono (by decide),fun v4 H4 f4 t4 => ?_⟩
      have t34:=t3.trans t4
      have f5:=f2.tk t34.tk
      walk_at "go"
      refine ⟨v1,v4,shr oa T m,1 - shr ob T m,rfl,f5,f4,sa.mono (by decide),(Sz.sub s1 sb).mono (by decide),?_⟩
      walk_at "go"
      refine i_d (fun c => ?_) (fun c => ?_)
      . rw [if_pos c] at q
        walk_at "go"
        refine r_tupK fun p5 hp5 => ?_
        walk_at "go"
        exact q _ _ ⟨p5,v1,v4,rfl,upd_same,f5.tk (TK.new hp5),f4.tk (TK.new hp5)⟩ ((t2.trans t34).trans (Same.new hp5))
      . rw [if_neg c] at q
        walk_at "go"
        exact q _ _ rfl (t2.trans t34)
    . intro NX hNX
      cases tk with
      | none =>
        cases (show vt = .non from ot)
        walk_at "go"
        exact hNX _ _ ⟨rfl,rfl,rfl⟩
      | some w =>
        obtain ⟨pw,rfl,hw⟩:=id (show FrQ H vt w from ot)
        walk_at "go"
        refine ⟨vm,.ref pw,m,w,rfl,fm,ot,zm.mono (by decide),(zt w rfl).mono (by decide),?_⟩
        walk_at "go"
        refine i_d (fun c => ?_) (fun c => ?_)
        . walk_at "go"
          exact hNX _ _ ⟨rfl,rfl,by show (!decide (m < w)) = false; rw [decide_eq_true c]; rfl⟩
        . walk_at "go"
          refine q _ _ ?_ (Same.refl _)
          unfold stn
          rw [show lateB (some w) m = true by show (!decide (m < w)) = true; rw [decide_eq_false c]; rfl,if_pos rfl]
          exact rfl
set_option maxHeartbeats 0 in
theorem ok_standing_in (T:Bl mg) (d:DfD K mg "standing_in" s_standing_in ["net","pushes","number","moment","takings"] [.non] ) (o_least_moments:Okf P w K mg base k "least_moments" ["deeds"] spLst) (o_standing_by:Okf P w K mg base k "standing_by" ["run","moments","taken","moment"] spStBy) (o_fall_moments:OkfD P w K mg base k "fall_moments" ["net","pushes","takings"] [.non] (spFm w)):OkfD P w K mg base (k + 1) "standing_in" ["net","pushes","number","moment","takings"] [.non] (spStIn w):=by
  refine OkfD.of d sc_standing_in (fun vs H Q E h => ?_) (fun f cdv A outer s H vs Q E hr h => ?_)
  . obtain ⟨l,n,lp,ps,vt,ts,DD,MM,U,kk,r,vm,m,rfl,_⟩:=h
    rfl
  . obtain ⟨l,n,lp,ps,vt,ts,DD,MM,U,kk,r,vm,m,rfl,hnet,hps,hts,hR,hU,hUn,hnk,fm,zm,zB,zT,q⟩:=h
    refine ⟨_,(@pss_cons _ _ _ _ _ (@ps_set _ _ (i:=5) _ _ _ _ sc_standing_in.nd rfl (by first | exact Or.inl rfl | exact Or.inr rfl) (@pe_callO _ _ _ _ _ _ _ _ _ _ o_fall_moments.f hr rfl (@pa_cons _ _ _ _ _ (pv 0) (@pa_cons _ _ _ _ _ (pv 1) (@pa_cons _ _ _ _ _ (pv 4) (@pa_nil _) (by rfl)) (by rfl)) (by rfl)) (by decide) (by rfl) (by rfl)) (by rfl) (by first | exact .inl rfl | exact .inr rfl | assumption)) (@pss_one _ _ _ (@ps_ret _ _ _ _ (@pe_callO _ _ _ _ _ _ _ _ _ _ o_standing_by hr rfl (@pa_cons _ _ _ _ _ (@pe_ix _ _ _ _ _ _ _ ix_LT (pv 0) (pv 2) (fun _ _ => rfl)) (@pa_cons _ _ _ _ _ (pv 5) (@pa_cons _ _ _ _ _ (@pe_dget1 _ _ _ _ _ _ _ hr.u1 (@pe_callO _ _ _ _ _ _ _ _ _ _ o_least_moments hr rfl (@pa_cons _ _ _ _ _ (@pe_orT _ _ _ _ _ _ _ (pv 4) (@pe_one _ _ _ _ _ (@pe_lst _ _ _ _ (@pa_nil _)))) (@pa_nil _) (by rfl)) (by decide) (by rfl) (by rfl)) (pv 2) ⟨rfl,rfl,rfl,rfl⟩) (@pa_cons _ _ _ _ _ (pv 3) (@pa_nil _) (by rfl)) (by rfl)) (by rfl)) (by rfl)) (by decide) (by rfl) (by rfl))))),?_⟩
    try dsimp only [cxK_nox,cxK_of]
    obtain ⟨vn,hvn,pvn⟩:=id hnet.lq
    have hkr:(kn n)[kk]? = some (Sum.inr r.1,Sum.inr r.2.1,r.2.2):=by
      unfold kn
      rw [List.getElem?_map,hnk]
      rfl
    have hrm:=List.mem_of_getElem? hnk
    obtain ⟨vr,hvr,pr,u,rfl,hpr,ft⟩:=pd_atT pvn hkr
    have bT:=hnet.bd _ (List.mem_map.mpr ⟨r,hrm,rfl⟩)
    have pT:(0:Rat) < r.2.2:=hnet.pos _ (List.mem_map.mpr ⟨r,hrm,rfl⟩)
    have h1n:r.1 ∈ names n:=List.mem_append_left _ (List.mem_map.mpr ⟨r,hrm,rfl⟩)
    have h2n:r.2.1 ∈ names n:=List.mem_append_right _ (List.mem_map.mpr ⟨r,hrm,rfl⟩)
    walk_at "go"
    refine ⟨l,n,lp,ps,vt,ts,DD,MM,U,rfl,hnet,hps,hts,hR,hU,hUn,fun d H1 F ys _ s1 dq fo bF srt nd mem => ?_⟩
    obtain ⟨kd,hkd,qd⟩:=dq
    have zF:∀ p f,momOf F p = some f -> Sz 400 f:=fun p f e => by
      unfold momOf at e
      rw [Option.map_eq_some_iff] at e
      obtain ⟨x,e1,rfl⟩:=e
      exact zB _ (bF _ (aget_mem e1))
    have get:∀ y ∈ names n,∃ v,valV kd (Sum.inr y) = some v /\ OptQ H1 v (momOf F (Sum.inr y)):=fun y hy => by
      have e0:aget (ys.map fun y => ((Sum.inr y:Key),momOf F (Sum.inr y))) (Sum.inr y) = some (momOf F (Sum.inr y)):=aget_of (by
        rw [List.map_map]
        exact List.pairwise_map.mpr (nd.imp fun h e => h (Sum.inr.inj e))) (List.mem_map.mpr ⟨y,(mem y).mpr hy,rfl⟩)
      rcases qd.val (k:=Sum.inr y) with ⟨_,e2⟩ | ⟨v1,r1,e1,e2,f1⟩
      . rw [e0] at e2
        cases e2
      . rw [e0] at e2
        cases e2
        exact ⟨v1,e1,f1⟩
    obtain ⟨va,ea,qa⟩:=get r.1 h1n
    obtain ⟨vb,eb,qb⟩:=get r.2.1 h2n
    walk_at "go"
    refine r_ixl (s1 _ _ hvn) (atI_nat hvr) ?_
    walk_at "go"
    refine r_orL (hts.sm s1) fun lt H2 s2 lq2 => ?_
    walk_at "go"
    refine ⟨lt,ts,rfl,lq2,Nat.le_trans hts.len (by decide),hts.sz,fun dT H3 _ s3 tq => ?_⟩
    obtain ⟨kt,hkt,qt⟩:=tq
    refine ⟨dT,rfl,.inl ⟨kt,.inl hkt⟩,?_⟩
    walk_at "go"
    refine ⟨valV kt (Sum.inl (kk:Int)),.inl ⟨kt,Sum.inl (kk:Int),.inl hkt,rfl,rfl⟩,?_⟩
    have ot:OptQ H3 ((valV kt (Sum.inl (kk:Int))).getD .non) (tkOf ts kk):=by
      unfold tkOf
      rcases qt.val (k:=Sum.inl (kk:Int)) with ⟨e1,e2⟩ | ⟨v1,r1,e1,e2,f1⟩
      . rw [e1,e2]
        rfl
      . rw [e1,e2]
        exact f1
    have zt:∀ f,tkOf ts kk = some f -> Sz 400 f:=fun f e => zT _ (lst_mem (aget_mem e))
    generalize (valV kt (Sum.inl (kk:Int))).getD .non = vk at ot ⊢
    have s23:=s2.trans s3
    have s13:=s1.trans s23
    walk_at "go"
    refine ⟨pr,d,vk,vm,r.1,r.2.1,u,r.2.2,m,kd,_,_,_,va,vb,rfl,s13 _ _ hpr,ft.tk s13.tk,s23 _ _ hkd,ea,qa.tk s23.tk,eb,qb.tk s23.tk,ot,fm.tk s13.tk,Rat.ne_of_gt pT,zB _ (bT.mono (by omega)),zm,zF _,zF _,zt,fun v H4 lv s4 => ?_⟩
    walk_at "go"
    exact q v H4 F (s13.trans s4) fo zF lv
theorem ok_is_swept (T:Bl mg) (d:Df K mg "is_swept" s_is_swept ["fell","time","beyond"]  ) (o_added:Okf P w K mg base k "added" ["one","other"] spAddQ) (o_is_less:Okf P w K mg base k "is_less" ["one","other"] spLessQ):Okf P w K mg base (k + 1) "is_swept" ["fell","time","beyond"] spSwp:=by
  refine Okf.of d sc_is_swept (fun vs H Q E h => ?_) (fun f cdv A outer s H vs Q E hr h => ?_)
  . obtain ⟨vf,vT,vb,o,T,p,rfl,_⟩:=h
    rfl
  . obtain ⟨vf,vT,vb,o,T,p,rfl,of,fT,ob,zT,zo,zp,q⟩:=h
    refine ⟨_,(@pss_one _ _ _ (@ps_ret _ _ _ _ (@pe_and _ _ _ _ _ _ _ (@pe_cmpR _ _ _ _ _ _ _ _ op_notN2 (pv 0) (@pe_non _ _ _) (nomark _)) (@pe_one _ _ _ _ _ (@pe_or _ _ _ _ _ _ _ (@pe_cmpR _ _ _ _ _ _ _ _ op_isN2 (pv 2) (@pe_non _ _ _) (nomark _)) (@pe_one _ _ _ _ _ (@pe_not _ _ _ _ (@pe_callO _ _ _ _ _ _ _ _ _ _ o_is_less hr rfl (@pa_cons _ _ _ _ _ (pv 2) (@pa_cons _ _ _ _ _ (@pe_callO _ _ _ _ _ _ _ _ _ _ o_added hr rfl (@pa_cons _ _ _ _ _ (pv 0) (@pa_cons _ _ _ _ _ (pv 1) (@pa_nil _) (by rfl)) (by rfl)) (by decide) (by rfl) (by rfl)) (@pa_nil _) (by rfl)) (by rfl)) (by decide) (by rfl) (by rfl))))))))),?_⟩
    try dsimp only [cxK_nox,cxK_of]
    cases o with
    | none =>
      cases (show vf = .non from of)
      walk_at "go"
      exact q _ (Same.refl _)
    | some f =>
      obtain ⟨pf,rfl,hf⟩:=id (show FrQ H vf f from of)
      cases p with
      | none =>
        cases (show vb = .non from ob)
        walk_at "go"
        exact q _ (Same.refl _)
      | some g =>
        obtain ⟨pg,rfl,hg⟩:=id (show FrQ H vb g from ob)
        walk_at "go"
        refine ⟨.ref pf,vT,f,T,rfl,of,fT,(zo f rfl).mono (by decide),zT.mono (by decide),fun v H1 fv s1 => ?_⟩
        walk_at "go"
        refine ⟨.ref pg,v,g,f + T,rfl,(show FrQ H (.ref pg) g from ob).tk s1.tk,fv,(zp g rfl).mono (by decide),(Sz.add (zo f rfl) zT).mono (by decide),?_⟩
        walk_at "go"
        exact q _ s1
set_option maxHeartbeats 0 in
theorem ok_ending_by_falls (T:Bl mg) (d:Df K mg "ending_by_falls" s_ending_by_falls ["run","moments"]  ) (o_lessened:Okf P w K mg base k "lessened" ["one","other"] spLesQ) (o_divided:Okf P w K mg base k "divided" ["one","other"] spDivQ) (o_added:Okf P w K mg base k "added" ["one","other"] spAddQ) (o_timed:Okf P w K mg base k "timed" ["one","other"] spTimQ) (o_is_swept:Okf P w K mg base k "is_swept" ["fell","time","beyond"] spSwp):Okf P w K mg base (k + 1) "ending_by_falls" ["run","moments"] spEnF:=by
  refine Okf.of d sc_ending_by_falls (fun vs H Q E h => ?_) (fun f cdv A outer s H vs Q E hr h => ?_)
  . obtain ⟨pr,dd,a,b,u,T,kd,oa,ob,va,vb,rfl,_⟩:=h
    rfl
  . obtain ⟨pr,dd,a,b,u,T,kd,oa,ob,va,vb,rfl,hpr,fT,hd,ea,qa,eb,qb,hT,zT,za,zb,q⟩:=h
    refine ⟨_,(@pss_cons _ _ _ _ _ (@ps_set _ _ (i:=2) _ _ _ _ sc_ending_by_falls.nd rfl (by first | exact Or.inl rfl | exact Or.inr rfl) (@pe_dget _ _ _ _ _ _ hr.u1 (pv 1) (@pe_ix _ _ _ _ _ _ _ ix_LT (pv 0) (@pe_int _ _ _ _) (fun _ _ => rfl)) (fun _ _ => rfl)) (by rfl) (by first | exact .inl rfl | exact .inr rfl | assumption)) (@pss_cons _ _ _ _ _ (@ps_set _ _ (i:=3) _ _ _ _ sc_ending_by_falls.nd rfl (by first | exact Or.inl rfl | exact Or.inr rfl) (@pe_dget _ _ _ _ _ _ hr.u1 (pv 1) (@pe_ix _ _ _ _ _ _ _ ix_LT (pv 0) (@pe_int _ _ _ _) (fun _ _ => rfl)) (fun _ _ => rfl)) (by rfl) (by first | exact .inl rfl | exact .inr rfl | assumption)) (@pss_cons _ _ _ _ _ (@ps_if _ _ _ _ _ _ _ _ (@PW.pt _ _ _ (@pw_and _ _ _ _ _ _ _ (@pt_cmpR _ _ _ _ _ _ _ _ op_isN2 (pv 2) (@pe_non _ _ _) (nomark _)) (@pw_and1 _ _ _ _ (@pt_cmpR _ _ _ _ _ _ _ _ op_isN2 (pv 3) (@pe_non _ _ _) (nomark _))))) (@pss_one _ _ _ (@ps_ret _ _ _ _ (@pe_tup _ _ _ _ _ (@pa_cons _ _ _ _ _ (@pe_str _ _ _ _) (@pa_nil _) (by rfl))))) (@pss_nil _)) (@pss_cons _ _ _ _ _ (@ps_if _ _ _ _ _ _ _ _ (@pt_val _ _ _ (@pe_callO _ _ _ _ _ _ _ _ _ _ o_is_swept hr rfl (@pa_cons _ _ _ _ _ (pv 2) (@pa_cons _ _ _ _ _ (@pe_ix _ _ _ _ _ _ _ ix_LT (pv 0) (@pe_int _ _ _ _) (fun _ _ => rfl)) (@pa_cons _ _ _ _ _ (pv 3) (@pa_nil _) (by rfl)) (by rfl)) (by rfl)) (by decide) (by rfl) (by rfl)) (by intro _; rfl)) (@pss_one _ _ _ (@ps_ret _ _ _ _ (@pe_tup _ _ _ _ _ (@pa_cons _ _ _ _ _ (@pe_str _ _ _ _) (@pa_cons _ _ _ _ _ (@pe_ix _ _ _ _ _ _ _ ix_LT (pv 0) (@pe_int _ _ _ _) (fun _ _ => rfl)) (@pa_cons _ _ _ _ _ (@pe_callO _ _ _ _ _ _ _ _ _ _ o_added hr rfl (@pa_cons _ _ _ _ _ (pv 2) (@pa_cons _ _ _ _ _ (@pe_ix _ _ _ _ _ _ _ ix_LT (pv 0) (@pe_int _ _ _ _) (fun _ _ => rfl)) (@pa_nil _) (by rfl)) (by rfl)) (by decide) (by rfl) (by rfl)) (@pa_nil _) (by rfl)) (by rfl)) (by rfl))))) (@pss_nil _)) (@pss_cons _ _ _ _ _ (@ps_if _ _ _ _ _ _ _ _ (@pt_val _ _ _ (@pe_callO _ _ _ _ _ _ _ _ _ _ o_is_swept hr rfl (@pa_cons _ _ _ _ _ (pv 3) (@pa_cons _ _ _ _ _ (@pe_ix _ _ _ _ _ _ _ ix_LT (pv 0) (@pe_int _ _ _ _) (fun _ _ => rfl)) (@pa_cons _ _ _ _ _ (pv 2) (@pa_nil _) (by rfl)) (by rfl)) (by rfl)) (by decide) (by rfl) (by rfl)) (by intro _; rfl)) (@pss_one _ _ _ (@ps_ret _ _ _ _ (@pe_tup _ _ _ _ _ (@pa_cons _ _ _ _ _ (@pe_str _ _ _ _) (@pa_cons _ _ _ _ _ (@pe_ix _ _ _ _ _ _ _ ix_LT (pv 0) (@pe_int _ _ _ _) (fun _ _ => rfl)) (@pa_cons _ _ _ _ _ (@pe_callO _ _ _ _ _ _ _ _ _ _ o_added hr rfl (@pa_cons _ _ _ _ _ (pv 3) (@pa_cons _ _ _ _ _ (@pe_ix _ _ _ _ _ _ _ ix_LT (pv 0) (@pe_int _ _ _ _) (fun _ _ => rfl)) (@pa_nil _) (by rfl)) (by rfl)) (by decide) (by rfl) (by rfl)) (@pa_nil _) (by rfl)) (by rfl)) (by rfl))))) (@pss_nil _)) (@pss_cons _ _ _ _ _ (@ps_set _ _ (i:=4) _ _ _ _ sc_ending_by_falls.nd rfl (by first | exact Or.inl rfl | exact Or.inr rfl) (@pe_callO _ _ _ _ _ _ _ _ _ _ o_timed hr rfl (@pa_cons _ _ _ _ _ (@pe_callO _ _ _ _ _ _ _ _ _ _ o_added hr rfl (@pa_cons _ _ _ _ _ (@pe_callO _ _ _ _ _ _ _ _ _ _ o_added hr rfl (@pa_cons _ _ _ _ _ (pv 2) (@pa_cons _ _ _ _ _ (pv 3) (@pa_nil _) (by rfl)) (by rfl)) (by decide) (by rfl) (by rfl)) (@pa_cons _ _ _ _ _ (@pe_ix _ _ _ _ _ _ _ ix_LT (pv 0) (@pe_int _ _ _ _) (fun _ _ => rfl)) (@pa_nil _) (by rfl)) (by rfl)) (by decide) (by rfl) (by rfl)) (@pa_cons _ _ _ _ _ (@pe_tup _ _ _ _ _ (@pa_cons _ _ _ _ _ (@pe_int _ _ _ _) (@pa_cons _ _ _ _ _ (@pe_int _ _ _ _) (@pa_nil _) (by rfl)) (by rfl))) (@pa_nil _) (by rfl)) (by rfl)) (by decide) (by rfl) (by rfl)) (by rfl) (by first | exact .inl rfl | exact .inr rfl | assumption)) (@pss_one _ _ _ (@ps_ret _ _ _ _ (@pe_tup _ _ _ _ _ (@pa_cons _ _ _ _ _ (@pe_str _ _ _ _) (@pa_cons _ _ _ _ _ (pv 4) (@pa_cons _ _ _ _ _ (@pe_callO _ _ _ _ _ _ _ _ _ _ o_divided hr rfl (@pa_cons _ _ _ _ _ (@pe_callO _ _ _ _ _ _ _ _ _ _ o_lessened hr rfl (@pa_cons _ _ _ _ _ (pv 4) (@pa_cons _ _ _ _ _ (pv 2) (@pa_nil _) (by rfl)) (by rfl)) (by decide) (by rfl) (by rfl)) (@pa_cons _ _ _ _ _ (@pe_ix _ _ _ _ _ _ _ ix_LT (pv 0) (@pe_int _ _ _ _) (fun _ _ => rfl)) (@pa_nil _) (by rfl)) (by rfl)) (by decide) (by rfl) (by rfl)) (@pa_nil _) (by rfl)) (by rfl)) (by rfl))))))))))),?_⟩
    try dsimp only [cxK_nox,cxK_of]
    have hT0:T ≠ 0:=Rat.ne_of_gt hT
    refine r_seq ?_
    walk_at "gos"
    refine r_dGs (.inl hd) ea ?_
    walk_at "gos"
    refine r_nx ?_
    refine r_seq ?_
    walk_at "gos"
    refine r_dGs (.inl hd) eb ?_
    walk_at "gos"
    refine r_nx ?_
    refine r_seq ?_
    refine r_cut (fun σ G => σ = [some (.ref pr),some (.ref dd),some va,some vb,none] /\ G = H /\ ¬ (oa = none /\ ob = none)) ?_ ?_
    . rintro σ G ⟨rfl,rfl,hc⟩
      unfold endF at q
      rw [if_neg hc] at q
      walk_at "go"
      refine ⟨va,u,vb,oa,T,ob,rfl,qa,fT,qb,zT,za,zb,fun H1 s1 => ?_⟩
      have hpr1:=s1 _ _ hpr
      by_cases c1:swp oa T ob = true
      . rw [if_pos c1] at q
        obtain ⟨f,rfl⟩:∃ f,oa = some f:=by
          cases oa with
          | none => cases c1
          | some f => exact ⟨f,rfl⟩
        obtain ⟨pf,rfl,hf⟩:=id (show FrQ H1 va f from qa.tk s1.tk)
        rw [c1]
        walk_at "go"
        refine ⟨.ref pf,u,f,T,rfl,qa.tk s1.tk,fT.tk s1.tk,(za f rfl).mono (by decide),zT.mono (by decide),fun v H2 fv s2 => ?_⟩
        walk_at "go"
        refine r_tupK fun p3 hp3 => ?_
        walk_at "go"
        exact q _ _ ⟨p3,v,rfl,upd_same,fv.tk (TK.new hp3)⟩ ((s1.trans s2).trans (Same.new hp3))
      . rw [if_neg c1] at q
        rw [Bool.not_eq_true] at c1
        rw [c1]
        walk_at "go"
        refine ⟨vb,u,va,ob,T,oa,rfl,qb.tk s1.tk,fT.tk s1.tk,qa.tk s1.tk,zT,zb,za,fun H2 s2 => ?_⟩
        replace s2:=s1.trans s2
        have hpr2:=s2 _ _ hpr
        by_cases c2:swp ob T oa = true
        . rw [if_pos c2] at q
          obtain ⟨g,rfl⟩:∃ f,ob = some f:=by
            cases ob with
            | none => cases c2
            | some f => exact ⟨f,rfl⟩
          obtain ⟨pg,rfl,hg⟩:=id (show FrQ H2 vb g from qb.tk s2.tk)
          rw [c2]
          walk_at "go"
          refine ⟨.ref pg,u,g,T,rfl,qb.tk s2.tk,fT.tk s2.tk,(zb g rfl).mono (by decide),zT.mono (by decide),fun v H3 fv s3 => ?_⟩
          walk_at "go"
          refine r_tupK fun p3 hp3 => ?_
          walk_at "go"
          exact q _ _ ⟨p3,v,rfl,upd_same,fv.tk (TK.new hp3)⟩ ((s2.trans s3).trans (Same.new hp3))
        . rw [if_neg c2] at q
          rw [Bool.not_eq_true] at c2
          obtain ⟨f,g,rfl,rfl⟩:∃ f g,oa = some f /\ ob = some g:=by
            cases oa with
            | none =>
              cases ob with
              | none => exact absurd ⟨rfl,rfl⟩ hc
              | some g => cases c2
            | some f =>
              cases ob with
              | none => cases c1
              | some g => exact ⟨f,g,rfl,rfl⟩
          have zf:=za f rfl
          have zg:=zb g rfl
          obtain ⟨pf,rfl,hf⟩:=id (show FrQ H2 va f from qa.tk s2.tk)
          obtain ⟨pg,rfl,hg⟩:=id (show FrQ H2 vb g from qb.tk s2.tk)
          have ff:FrQ H2 (.ref pf) f:=⟨pf,rfl,hf⟩
          have fg:FrQ H2 (.ref pg) g:=⟨pg,rfl,hg⟩
          rw [c2]
          walk_at "go"
          refine ⟨.ref pf,.ref pg,f,g,rfl,ff,fg,zf.mono (by decide),zg.mono (by decide),fun v H3 fv s3 => ?_⟩
          have z1:=Sz.add zf zg
          have hpr3:=s3 _ _ hpr2
          walk_at "go"
          refine ⟨v,u,f + g,T,rfl,fv,(fT.tk s2.tk).tk s3.tk,z1.mono (by decide),zT.mono (by decide),fun v4 H4 f4 s4 => ?_⟩
          have z2:=Sz.add z1 zT
          walk_at "go"
          refine r_tupK fun p5 hp5 => ?_
          have s5:=Same.new (o:=.tup [.int 1,.int 2]) hp5
          have f5:FrQ (L2.upd H4 p5 (.tup [.int 1,.int 2])) (.ref p5) (1 / 2):=⟨p5,rfl,by rw [show ((1 / 2:Rat)).num = 1 by decide +kernel,show ((1 / 2:Rat)).den = 2 by decide +kernel]; exact upd_same⟩
          have f4':=f4.tk s5.tk
          generalize L2.upd H4 p5 (.tup [.int 1,.int 2]) = H5 at s5 f5 f4' ⊢
          have zh:Sz 10 (1 / 2:Rat):=⟨by decide +kernel,by decide +kernel⟩
          walk_at "go"
          refine ⟨v4,.ref p5,_,_,rfl,f4',f5,z2.mono (by decide),zh.mono (by decide),fun v6 H6 f6 s6 => ?_⟩
          have z6:=Sz.mul z2 zh
          have s36:=(s3.trans (s4.trans s5)).trans s6
          have hpr6:=s36 _ _ hpr2
          walk_at "go"
          refine ⟨v6,.ref pf,_,f,rfl,f6,ff.tk s36.tk,z6.mono (by decide),zf.mono (by decide),fun v7 H7 f7 s7 => ?_⟩
          have hpr7:=s7 _ _ hpr6
          have z7:=Sz.sub z6 zf
          walk_at "go"
          refine ⟨v7,u,_,T,rfl,f7,((fT.tk s2.tk).tk s36.tk).tk s7.tk,z7.mono (by decide),zT.mono (by decide),hT0,fun v8 H8 f8 s8 => ?_⟩
          walk_at "go"
          refine r_tupK fun p9 hp9 => ?_
          walk_at "go"
          have t9:=TK.new (o:=.tup [.str "met",v6,v8]) hp9
          exact q _ _ ⟨p9,v6,v8,rfl,upd_same,((f6.tk s7.tk).tk s8.tk).tk t9,f8.tk t9⟩ (((s2.trans s36).trans (s7.trans s8)).trans (Same.new hp9))
    . intro NX hNX
      cases oa with
      | none =>
        cases (show va = .non from qa)
        cases ob with
        | none =>
          cases (show vb = .non from qb)
          walk_at "go"
          refine r_tupK fun p3 hp3 => ?_
          walk_at "go"
          exact q _ _ ⟨p3,rfl,upd_same⟩ (Same.new hp3)
        | some g =>
          obtain ⟨pg,rfl,hg⟩:=id (show FrQ H vb g from qb)
          walk_at "go"
          exact hNX _ _ ⟨rfl,rfl,fun z => nomatch z.2⟩
      | some f =>
        obtain ⟨pf,rfl,hf⟩:=id (show FrQ H va f from qa)
        walk_at "go"
        exact hNX _ _ ⟨rfl,rfl,fun z => nomatch z.1⟩
theorem ok_moment_of (T:Bl mg) (d:Df K mg "moment_of" s_moment_of ["ending"]  ):Okf P w K mg base (k + 1) "moment_of" ["ending"] spMoE:=by
  refine Okf.of d sc_moment_of (fun vs H Q E h => ?_) (fun f cdv A outer s H vs Q E hr h => ?_)
  . obtain ⟨v,e,rfl,_⟩:=h
    rfl
  . obtain ⟨v,e,rfl,ev,q⟩:=h
    refine ⟨_,(@pss_cons _ _ _ _ _ (@ps_if _ _ _ _ _ _ _ _ (@pt_cmpR _ _ _ _ _ _ _ _ (op_eqA hr.units) (@pe_ix _ _ _ _ _ _ _ ix_LT (pv 0) (@pe_int _ _ _ _) (fun _ _ => rfl)) (@pe_str _ _ _ _) (nomark _)) (@pss_one _ _ _ (@ps_ret _ _ _ _ (@pe_non _ _ _))) (@pss_nil _)) (@pss_one _ _ _ (@ps_ret _ _ _ _ (@pe_ifExp _ _ _ _ _ _ _ _ (@pt_cmpR _ _ _ _ _ _ _ _ (op_eqA hr.units) (@pe_ix _ _ _ _ _ _ _ ix_LT (pv 0) (@pe_int _ _ _ _) (fun _ _ => rfl)) (@pe_str _ _ _ _) (nomark _)) (@pe_ix _ _ _ _ _ _ _ ix_LT (pv 0) (@pe_int _ _ _ _) (fun _ _ => rfl)) (@pe_ix _ _ _ _ _ _ _ ix_LT (pv 0) (@pe_int _ _ _ _) (fun _ _ => rfl)))))),?_⟩
    try dsimp only [cxK_nox,cxK_of]
    cases e with
    | stands =>
      obtain ⟨p,rfl,hp⟩:=ev
      walk_at "go"
      refine i_bT (beq_self_eq_true _) ?_
      walk_at "go"
      exact q _ rfl
    | swept s t =>
      obtain ⟨p,u,rfl,hp,fu⟩:=ev
      walk_at "go"
      refine i_bF (by decide +kernel) ?_
      walk_at "go"
      refine i_bT (beq_self_eq_true _) ?_
      walk_at "go"
      exact q _ fu
    | met t s =>
      obtain ⟨p,u,w,rfl,hp,fu,fw⟩:=ev
      walk_at "go"
      refine i_bF (by decide +kernel) ?_
      walk_at "go"
      refine i_bF (by decide +kernel) ?_
      walk_at "go"
      exact q _ fu
    | taken t =>
      obtain ⟨p,u,rfl,hp,fu⟩:=ev
      walk_at "go"
      refine i_bF (by decide +kernel) ?_
      walk_at "go"
      refine i_bF (by decide +kernel) ?_
      walk_at "go"
      exact q _ fu
set_option maxHeartbeats 0 in
theorem ok_ending_by (T:Bl mg) (d:Df K mg "ending_by" s_ending_by ["run","moments","taken"]  ) (o_is_less:Okf P w K mg base k "is_less" ["one","other"] spLessQ) (o_moment_of:Okf P w K mg base k "moment_of" ["ending"] spMoE) (o_ending_by_falls:Okf P w K mg base k "ending_by_falls" ["run","moments"] spEnF):Okf P w K mg base (k + 1) "ending_by" ["run","moments","taken"] spEnBy:=by
  refine Okf.of d sc_ending_by (fun vs H Q E h => ?_) (fun f cdv A outer s H vs Q E hr h => ?_)
  . obtain ⟨pr,dd,vt,a,b,u,T,kd,oa,ob,tk,va,vb,rfl,_⟩:=h
    rfl
  . obtain ⟨pr,dd,vt,a,b,u,T,kd,oa,ob,tk,va,vb,rfl,hpr,fT,hd,ea,qa,eb,qb,ot,hT,zT,za,zb,zt,q⟩:=h
    refine ⟨_,(@pss_cons _ _ _ _ _ (@ps_set _ _ (i:=3) _ _ _ _ sc_ending_by.nd rfl (by first | exact Or.inl rfl | exact Or.inr rfl) (@pe_callO _ _ _ _ _ _ _ _ _ _ o_ending_by_falls hr rfl (@pa_cons _ _ _ _ _ (pv 0) (@pa_cons _ _ _ _ _ (pv 1) (@pa_nil _) (by rfl)) (by rfl)) (by decide) (by rfl) (by rfl)) (by rfl) (by first | exact .inl rfl | exact .inr rfl | assumption)) (@pss_cons _ _ _ _ _ (@ps_set _ _ (i:=4) _ _ _ _ sc_ending_by.nd rfl (by first | exact Or.inl rfl | exact Or.inr rfl) (@pe_callO _ _ _ _ _ _ _ _ _ _ o_moment_of hr rfl (@pa_cons _ _ _ _ _ (pv 3) (@pa_nil _) (by rfl)) (by decide) (by rfl) (by rfl)) (by rfl) (by first | exact .inl rfl | exact .inr rfl | assumption)) (@pss_cons _ _ _ _ _ (@ps_if _ _ _ _ _ _ _ _ (@PW.pt _ _ _ (@pw_and _ _ _ _ _ _ _ (@pt_cmpR _ _ _ _ _ _ _ _ op_notN2 (pv 2) (@pe_non _ _ _) (nomark _)) (@pw_and1 _ _ _ _ (@PW.pt _ _ _ (@pw_or _ _ _ _ _ _ _ (@pt_cmpR _ _ _ _ _ _ _ _ op_isN2 (pv 4) (@pe_non _ _ _) (nomark _)) (@pw_or1 _ _ _ _ (@pt_val _ _ _ (@pe_callO _ _ _ _ _ _ _ _ _ _ o_is_less hr rfl (@pa_cons _ _ _ _ _ (pv 2) (@pa_cons _ _ _ _ _ (pv 4) (@pa_nil _) (by rfl)) (by rfl)) (by decide) (by rfl) (by rfl)) (by intro _; rfl)))))))) (@pss_one _ _ _ (@ps_ret _ _ _ _ (@pe_tup _ _ _ _ _ (@pa_cons _ _ _ _ _ (@pe_str _ _ _ _) (@pa_cons _ _ _ _ _ (pv 2) (@pa_nil _) (by rfl)) (by rfl))))) (@pss_nil _)) (@pss_one _ _ _ (@ps_ret _ _ _ _ (pv 3)))))),?_⟩
    try dsimp only [cxK_nox,cxK_of]
    have ze:=end_sz (a:=a) (b:=b) zT za zb
    walk_at "go"
    refine ⟨pr,dd,a,b,u,T,kd,oa,ob,va,vb,rfl,hpr,fT,hd,ea,qa,eb,qb,hT,zT,za,zb,fun ve H1 qe s1 => ?_⟩
    generalize endF a b oa ob T = e at ze qe q
    walk_at "go"
    refine ⟨ve,e,rfl,qe,fun vm om => ?_⟩
    walk_at "go"
    cases tk with
    | none =>
      cases (show vt = .non from ot)
      walk_at "go"
      exact q _ _ qe s1
    | some w =>
      have ot1:=ot.tk s1.tk
      obtain ⟨pw,rfl,hw⟩:=id (show FrQ H1 vt w from ot1)
      cases ee:endAt e with
      | none =>
        rw [ee] at om
        cases (show vm = .non from om)
        walk_at "go"
        refine r_tupK fun p3 hp3 => ?_
        walk_at "go"
        refine q _ _ ?_ (s1.trans (Same.new hp3))
        show EndQ _ _ (if goneB w (endAt e) = true then _ else _)
        rw [ee,show goneB w none = true from rfl,if_pos rfl]
        exact ⟨p3,_,rfl,upd_same,(show FrQ H1 (.ref pw) w from ot1).tk (TK.new hp3)⟩
      | some t =>
        rw [ee] at om
        obtain ⟨pm,rfl,hm⟩:=id (show FrQ H1 vm t from om)
        walk_at "go"
        refine ⟨.ref pw,.ref pm,w,t,rfl,ot1,om,(zt w rfl).mono (by decide),(ze t ee).mono (by decide),?_⟩
        walk_at "go"
        replace q:∀ v H',EndQ H' v (if goneB w (endAt e) = true then .taken w else e) -> Same H H' -> Q v H':=q
        rw [ee] at q
        refine i_d (fun c => ?_) (fun c => ?_)
        . walk_at "go"
          refine r_tupK fun p3 hp3 => ?_
          walk_at "go"
          refine q _ _ ?_ (s1.trans (Same.new hp3))
          rw [show goneB w (some t) = true from decide_eq_true c,if_pos rfl]
          exact ⟨p3,_,rfl,upd_same,(show FrQ H1 (.ref pw) w from ot1).tk (TK.new hp3)⟩
        . walk_at "go"
          refine q _ _ ?_ s1
          rw [show goneB w (some t) = false from decide_eq_false c,if_neg Bool.false_ne_true]
          exact qe
set_option maxHeartbeats 0 in
theorem ok_ending_of (T:Bl mg) (d:DfK K mg "ending_of" s_ending_of ["net","pushes","number","takings"] [.non] 3 ["takings"]) (o_least_moments:Okf P w K mg base k "least_moments" ["deeds"] spLst) (o_ending_by:Okf P w K mg base k "ending_by" ["run","moments","taken"] spEnBy) (o_fall_moments:OkfD P w K mg base k "fall_moments" ["net","pushes","takings"] [.non] (spFm w)):OkfK P w K mg base (k + 1) "ending_of" ["net","pushes","number","takings"] [.non] 3 ["takings"] (spEnOf w):=by
  refine OkfK.of d sc_ending_of (fun vs H Q E h => ?_) (fun f cdv A outer s H vs Q E hr h => ?_)
  . obtain ⟨l,n,lp,ps,vt,ts,DD,MM,U,kk,r,rfl,_⟩:=h
    rfl
  . obtain ⟨l,n,lp,ps,vt,ts,DD,MM,U,kk,r,rfl,hnet,hps,hts,hR,hU,hUn,hnk,zB,zT,q⟩:=h
    refine ⟨_,(@pss_cons _ _ _ _ _ (@ps_set _ _ (i:=4) _ _ _ _ sc_ending_of.nd rfl (by first | exact Or.inl rfl | exact Or.inr rfl) (@pe_callO _ _ _ _ _ _ _ _ _ _ o_fall_moments.f hr rfl (@pa_cons _ _ _ _ _ (pv 0) (@pa_cons _ _ _ _ _ (pv 1) (@pa_cons _ _ _ _ _ (pv 3) (@pa_nil _) (by rfl)) (by rfl)) (by rfl)) (by decide) (by rfl) (by rfl)) (by rfl) (by first | exact .inl rfl | exact .inr rfl | assumption)) (@pss_one _ _ _ (@ps_ret _ _ _ _ (@pe_callO _ _ _ _ _ _ _ _ _ _ o_ending_by hr rfl (@pa_cons _ _ _ _ _ (@pe_ix _ _ _ _ _ _ _ ix_LT (pv 0) (pv 2) (fun _ _ => rfl)) (@pa_cons _ _ _ _ _ (pv 4) (@pa_cons _ _ _ _ _ (@pe_dget1 _ _ _ _ _ _ _ hr.u1 (@pe_callO _ _ _ _ _ _ _ _ _ _ o_least_moments hr rfl (@pa_cons _ _ _ _ _ (@pe_orT _ _ _ _ _ _ _ (pv 3) (@pe_one _ _ _ _ _ (@pe_lst _ _ _ _ (@pa_nil _)))) (@pa_nil _) (by rfl)) (by decide) (by rfl) (by rfl)) (pv 2) ⟨rfl,rfl,rfl,rfl⟩) (@pa_nil _) (by rfl)) (by rfl)) (by rfl)) (by decide) (by rfl) (by rfl))))),?_⟩
    try dsimp only [cxK_nox,cxK_of]
    obtain ⟨vn,hvn,pvn⟩:=id hnet.lq
    have hkr:(kn n)[kk]? = some (Sum.inr r.1,Sum.inr r.2.1,r.2.2):=by
      unfold kn
      rw [List.getElem?_map,hnk]
      rfl
    have hrm:=List.mem_of_getElem? hnk
    obtain ⟨vr,hvr,pr,u,rfl,hpr,ft⟩:=pd_atT pvn hkr
    have bT:=hnet.bd _ (List.mem_map.mpr ⟨r,hrm,rfl⟩)
    have pT:(0:Rat) < r.2.2:=hnet.pos _ (List.mem_map.mpr ⟨r,hrm,rfl⟩)
    have h1n:r.1 ∈ names n:=List.mem_append_left _ (List.mem_map.mpr ⟨r,hrm,rfl⟩)
    have h2n:r.2.1 ∈ names n:=List.mem_append_right _ (List.mem_map.mpr ⟨r,hrm,rfl⟩)
    walk_at "go"
    refine ⟨l,n,lp,ps,vt,ts,DD,MM,U,rfl,hnet,hps,hts,hR,hU,hUn,fun d H1 F ys _ s1 dq fo bF srt nd mem => ?_⟩
    obtain ⟨kd,hkd,qd⟩:=dq
    have zF:∀ p f,momOf F p = some f -> Sz 400 f:=fun p f e => by
      unfold momOf at e
      rw [Option.map_eq_some_iff] at e
      obtain ⟨x,e1,rfl⟩:=e
      exact zB _ (bF _ (aget_mem e1))
    have get:∀ y ∈ names n,∃ v,valV kd (Sum.inr y) = some v /\ OptQ H1 v (momOf F (Sum.inr y)):=fun y hy => by
      have e0:aget (ys.map fun y => ((Sum.inr y:Key),momOf F (Sum.inr y))) (Sum.inr y) = some (momOf F (Sum.inr y)):=aget_of (by
        rw [List.map_map]
        exact List.pairwise_map.mpr (nd.imp fun h e => h (Sum.inr.inj e))) (List.mem_map.mpr ⟨y,(mem y).mpr hy,rfl⟩)
      rcases qd.val (k:=Sum.inr y) with ⟨_,e2⟩ | ⟨v1,r1,e1,e2,f1⟩
      . rw [e0] at e2
        cases e2
      . rw [e0] at e2
        cases e2
        exact ⟨v1,e1,f1⟩
    obtain ⟨va,ea,qa⟩:=get r.1 h1n
    obtain ⟨vb,eb,qb⟩:=get r.2.1 h2n
    walk_at "go"
    refine r_ixl (s1 _ _ hvn) (atI_nat hvr) ?_
    walk_at "go"
    refine r_orL (hts.sm s1) fun lt H2 s2 lq2 => ?_
    walk_at "go"
    refine ⟨lt,ts,rfl,lq2,Nat.le_trans hts.len (by decide),hts.sz,fun dT H3 _ s3 tq => ?_⟩
    obtain ⟨kt,hkt,qt⟩:=tq
    refine ⟨dT,rfl,.inl ⟨kt,.inl hkt⟩,?_⟩
    walk_at "go"
    refine ⟨valV kt (Sum.inl (kk:Int)),.inl ⟨kt,Sum.inl (kk:Int),.inl hkt,rfl,rfl⟩,?_⟩
    have ot:OptQ H3 ((valV kt (Sum.inl (kk:Int))).getD .non) (tkOf ts kk):=by
      unfold tkOf
      rcases qt.val (k:=Sum.inl (kk:Int)) with ⟨e1,e2⟩ | ⟨v1,r1,e1,e2,f1⟩
      . rw [e1,e2]
        rfl
      . rw [e1,e2]
        exact f1
    have zt:∀ f,tkOf ts kk = some f -> Sz 400 f:=fun f e => zT _ (lst_mem (aget_mem e))
    generalize (valV kt (Sum.inl (kk:Int))).getD .non = vk at ot ⊢
    have s23:=s2.trans s3
    have s13:=s1.trans s23
    walk_at "go"
    refine ⟨pr,d,vk,r.1,r.2.1,u,r.2.2,kd,_,_,_,va,vb,rfl,s13 _ _ hpr,ft.tk s13.tk,s23 _ _ hkd,ea,qa.tk s23.tk,eb,qb.tk s23.tk,ot,pT,zB _ (bT.mono (by omega)),zF _,zF _,zt,fun v H4 lv s4 => ?_⟩
    walk_at "go"
    exact q v H4 F (s13.trans s4) fo zF lv
theorem ok_cell_at (T:Bl mg) (d:Df K mg "_law_cell_at" s_cell_at ["_law_script","_law_k"]  ):Okf P w K mg base (k + 1) "_law_cell_at" ["_law_script","_law_k"] (spCell K):=by
  refine Okf.of d sc_cell_at (fun vs H Q E h => ?_) (fun f cdv A outer s H vs Q E hr h => ?_)
  . obtain ⟨a,ns,k',rfl,_⟩:=h
    rfl
  . obtain ⟨a,ns,k',rfl,hS,h0,q⟩:=h
    refine ⟨_,(@pss_cons _ _ _ _ _ (@ps_if _ _ _ _ _ _ _ _ (@pt_cmpR _ _ _ _ _ _ _ _ op_lt (pv 1) (@pe_callB _ _ _ _ _ _ _ _ _ c_len rfl T.z_len bt_len (@pa_cons _ _ _ _ _ (pv 0) (@pa_nil _) (by rfl)) (by decide) (by decide) (by rfl) (by rfl)) (nomark _)) (@pss_one _ _ _ (@ps_ret _ _ _ _ (@pe_ix _ _ _ _ _ _ _ ix_LT (pv 0) (pv 1) (fun _ _ => rfl)))) (@pss_nil _)) (@pss_one _ _ _ (@ps_ret _ _ _ _ (@pe_int _ _ _ _)))),?_⟩
    try dsimp only [cxK_nox,cxK_of]
    walk_at "go"
    refine r_lenL hS ?_
    walk_at "go"
    refine i_d (fun c => ?_) (fun c => ?_)
    . rw [List.length_map] at c
      obtain ⟨z,_,hz⟩:=pick (ns:=ns) h0 c
      walk_at "go"
      refine r_ixs hS hz ?_
      walk_at "go"
      exact q z
    . walk_at "go"
      exact q 0
set_option maxHeartbeats 0 in
theorem ok_mixed (T:Bl mg) (d:Df K mg "_law_mixed" s_mixed ["_law_cell","_law_k"]  ):Okf P w K mg base (k + 1) "_law_mixed" ["_law_cell","_law_k"] spMixed24:=by
  refine Okf.of d sc_mixed (fun vs H Q E h => ?_) (fun f cdv A outer s H vs Q E hr h => ?_)
  . obtain ⟨c,k',rfl,_⟩:=h
    rfl
  . obtain ⟨c,k',rfl,h0,h1,q⟩:=h
    refine ⟨_,(@pss_cons _ _ _ _ _ (@ps_set _ _ (i:=2) _ _ _ _ sc_mixed.nd rfl (by first | exact Or.inl rfl | exact Or.inr rfl) (@pe_op _ _ _ _ _ _ _ _ op_mod (@pe_op _ _ _ _ _ _ _ _ op_mulB (@pe_op _ _ _ _ _ _ _ _ op_addA (@pe_op _ _ _ _ _ _ _ _ op_addA (@pe_op _ _ _ _ _ _ _ _ op_addA (@pe_op _ _ _ _ _ _ _ _ op_mod (pv 0) (@pe_int _ _ _ _)) (@pe_op _ _ _ _ _ _ _ _ op_mulB (@pe_op _ _ _ _ _ _ _ _ op_mulB (@pe_int _ _ _ _) (pv 1)) (pv 1))) (pv 1)) (@pe_int _ _ _ _)) (@pe_int _ _ _ _)) (@pe_int _ _ _ _)) (by rfl) (by first | exact .inl rfl | exact .inr rfl | assumption)) (@pss_cons _ _ _ _ _ (@ps_set _ _ (i:=2) _ _ _ _ sc_mixed.nd rfl (by first | exact Or.inl rfl | exact Or.inr rfl) (@pe_op _ _ _ _ _ _ _ _ op_mod (@pe_op _ _ _ _ _ _ _ _ op_addA (@pe_op _ _ _ _ _ _ _ _ op_mulB (pv 2) (pv 2)) (@pe_op _ _ _ _ _ _ _ _ op_mulB (@pe_int _ _ _ _) (pv 1))) (@pe_int _ _ _ _)) (by rfl) (by first | exact .inl rfl | exact .inr rfl | assumption)) (@pss_one _ _ _ (@ps_ret _ _ _ _ (@pe_op _ _ _ _ _ _ _ _ op_mod (@pe_op _ _ _ _ _ _ _ _ op_mulB (@pe_op _ _ _ _ _ _ _ _ op_mulB (pv 2) (pv 2)) (@pe_int _ _ _ _)) (@pe_op _ _ _ _ _ _ _ _ op_addA (@pe_op _ _ _ _ _ _ _ _ op_pow (@pe_int _ _ _ _) (@pe_int _ _ _ _)) (@pe_int _ _ _ _))))))),?_⟩
    try dsimp only [cxK_nox,cxK_of]
    walk_at "go"
    generalize (c % 1000000007 + 7919 * k' * k' + k' + 1) * 48271 = z1
    have a0:=Int.emod_nonneg z1 (show (2147483629:Int) ≠ 0 by decide)
    have a1:=Int.emod_lt_of_pos z1 (show (0:Int) < 2147483629 by decide)
    generalize z1 % 2147483629 = z2 at *
    walk_at "go"
    generalize z2 * z2 + 69621 * k' = z3
    have b0:=Int.emod_nonneg z3 (show (2147483587:Int) ≠ 0 by decide)
    have b1:=Int.emod_lt_of_pos z3 (show (0:Int) < 2147483587 by decide)
    generalize z3 % 2147483587 = z4 at *
    walk_at "go"
    have hz:z4 * z4 < 2 ^ 64:=by
      have:=Int.mul_le_mul (show z4 <= 2147483587 by omega) (show z4 <= 2147483587 by omega) b0 (by decide)
      omega
    have hz0:0 <= z4 * z4:=Int.mul_nonneg b0 b0
    generalize z4 * z4 = z5 at *
    walk_at "go"
    refine r_pow57 ?_
    walk_at "go"
    exact q _
set_option maxHeartbeats 0 in
theorem ok_number (T:Bl mg) (d:Df K mg "_law_number" s_number ["_law_script","_law_k"]  ) (o_mixed:Okf P w K mg base k "_law_mixed" ["_law_cell","_law_k"] spMixed24) (o_cell_at:Okf P w K mg base k "_law_cell_at" ["_law_script","_law_k"] (spCell K)):Okf P w K mg base (k + 1) "_law_number" ["_law_script","_law_k"] (spNum24 K):=by
  refine Okf.of d sc_number (fun vs H Q E h => ?_) (fun f cdv A outer s H vs Q E hr h => ?_)
  . obtain ⟨a,ns,k',rfl,_⟩:=h
    rfl
  . obtain ⟨a,ns,k',rfl,hS,h0,h1,q⟩:=h
    refine ⟨_,(@pss_cons _ _ _ _ _ (@ps_set _ _ (i:=2) _ _ _ _ sc_number.nd rfl (by first | exact Or.inl rfl | exact Or.inr rfl) (@pe_callO _ _ _ _ _ _ _ _ _ _ o_cell_at hr rfl (@pa_cons _ _ _ _ _ (pv 0) (@pa_cons _ _ _ _ _ (pv 1) (@pa_nil _) (by rfl)) (by rfl)) (by decide) (by rfl) (by rfl)) (by rfl) (by first | exact .inl rfl | exact .inr rfl | assumption)) (@pss_cons _ _ _ _ _ (@ps_if _ _ _ _ _ _ _ _ (@PW.pt _ _ _ (@pw_and _ _ _ _ _ _ _ (@pt_cmpR _ _ _ _ _ _ _ _ (op_eqA hr.units) (@pe_op _ _ _ _ _ _ _ _ op_mod (@pe_callO _ _ _ _ _ _ _ _ _ _ o_cell_at hr rfl (@pa_cons _ _ _ _ _ (pv 0) (@pa_cons _ _ _ _ _ (@pe_int _ _ _ _) (@pa_nil _) (by rfl)) (by rfl)) (by decide) (by rfl) (by rfl)) (@pe_int _ _ _ _)) (@pe_int _ _ _ _) (nomark _)) (@pw_and1 _ _ _ _ (@pt_cmpR _ _ _ _ _ _ _ _ op_ge (@pe_callB _ _ _ _ _ _ _ _ _ c_abs rfl T.z_abs bt_abs (@pa_cons _ _ _ _ _ (pv 2) (@pa_nil _) (by rfl)) (by decide) (by decide) (by rfl) (by rfl)) (@pe_op _ _ _ _ _ _ _ _ op_pow (@pe_int _ _ _ _) (@pe_int _ _ _ _)) (nomark _))))) (@pss_one _ _ _ (@ps_ret _ _ _ _ (pv 2))) (@pss_nil _)) (@pss_one _ _ _ (@ps_ret _ _ _ _ (@pe_callO _ _ _ _ _ _ _ _ _ _ o_mixed hr rfl (@pa_cons _ _ _ _ _ (pv 2) (@pa_cons _ _ _ _ _ (pv 1) (@pa_nil _) (by rfl)) (by rfl)) (by decide) (by rfl) (by rfl)))))),?_⟩
    try dsimp only [cxK_nox,cxK_of]
    walk_at "go"
    refine ⟨a,ns,k',rfl,hS,h0,fun r1 => ?_⟩
    walk_at "go"
    refine ⟨a,ns,0,rfl,hS,Int.le_refl 0,fun r0 => ?_⟩
    walk_at "go"
    refine i_d (fun c => ?_) (fun c => ?_)
    . walk_at "go"
      refine i_d (fun c2 => ?_) (fun c2 => ?_)
      . walk_at "go"
        exact q _
      . walk_at "go"
        refine ⟨r1,k',rfl,h0,h1,fun r => ?_⟩
        walk_at "go"
        exact q _
    . walk_at "go"
      refine ⟨r1,k',rfl,h0,h1,fun r => ?_⟩
      walk_at "go"
      exact q _
theorem ok_low (T:Bl mg) (d:Df K mg "_law_low" s_low ["_law_top","_law_bottom"]  ):Okf P w K mg base (k + 1) "_law_low" ["_law_top","_law_bottom"] spLowest:=by
  refine Okf.of d sc_low (fun vs H Q E h => ?_) (fun f cdv A outer s H vs Q E hr h => ?_)
  . obtain ⟨t,b,rfl,_⟩:=h
    rfl
  . obtain ⟨t,b,rfl,hb,hs1,hs2,q⟩:=h
    refine ⟨_,(@pss_cons _ _ _ _ _ (@ps_set _ _ (i:=2) _ _ _ _ sc_low.nd rfl (by first | exact Or.inl rfl | exact Or.inr rfl) (@pe_callB _ _ _ _ _ _ _ _ _ c_abs rfl T.z_abs bt_abs (@pa_cons _ _ _ _ _ (pv 0) (@pa_nil _) (by rfl)) (by decide) (by decide) (by rfl) (by rfl)) (by rfl) (by first | exact .inl rfl | exact .inr rfl | assumption)) (@pss_cons _ _ _ _ _ (@ps_set _ _ (i:=3) _ _ _ _ sc_low.nd rfl (by first | exact Or.inl rfl | exact Or.inr rfl) (pv 1) (by rfl) (by first | exact .inl rfl | exact .inr rfl | assumption)) (@pss_cons _ _ _ _ _ (@ps_while _ _ _ _ _ _ PassesOwn.never (@pt_cmpR _ _ _ _ _ _ _ _ op_gt (pv 3) (@pe_int _ _ _ _) (nomark _)) (@pss_one _ _ _ (@ps_par _ _ (i:=2) (j:=3) _ _ _ _ _ _ _ _ _ _ _ rfl sc_low.nd rfl rfl (by decide) rfl rfl (@pa_cons _ _ _ _ _ (pv 3) (@pa_cons _ _ _ _ _ (@pe_op _ _ _ _ _ _ _ _ op_mod (pv 2) (pv 3)) (@pa_nil _) (by rfl)) (by rfl)) rfl (by rfl)))) (@pss_one _ _ _ (@ps_ret _ _ _ _ (@pe_tup _ _ _ _ _ (@pa_cons _ _ _ _ _ (@pe_op _ _ _ _ _ _ _ _ op_fdivB (pv 0) (pv 2)) (@pa_cons _ _ _ _ _ (@pe_op _ _ _ _ _ _ _ _ op_fdivB (pv 1) (pv 2)) (@pa_nil _) (by rfl)) (by rfl)))))))),?_⟩
    try dsimp only [cxK_nox,cxK_of]
    walk_at "go"
    refine while_by (fun σ H' => ∃ one other:Int,σ = [some (.int t),some (.int b),some (.int one),some (.int other)] /\ H' = H /\ 0 <= one /\ 0 <= other /\ Int.gcd one other = Int.gcd t b)
      (fun σ _ => match σ with | [_,_,_,some (.int z)] => z.toNat | _ => 0) ⟨_,_,rfl,rfl,by split <;> omega,by omega,?_⟩ ?_ ?_
    . have e:(if t < 0 then -t else t) = (t.natAbs:Int):=by split <;> omega
      rw [e]
      simp [Int.gcd]
    . rintro σ H' ⟨one,other,rfl,rfl,h1,h2,hg⟩
      walk_at "go"
      refine i_d (fun c => ?_) (fun c => ?_)
      . walk_at "go"
        refine ⟨⟨_,_,rfl,rfl,h2,Int.emod_nonneg _ (by omega),by rw [gcd_step c]; exact hg⟩,?_⟩
        have:=Int.emod_lt_of_pos one c
        show (one % other).toNat < other.toNat
        omega
      . have e:other = 0:=by omega
        subst e
        have hb0:b ≠ 0:=by omega
        have e1:one = (Int.gcd t b:Int):=by rw [← hg,Int.gcd_zero_right]; omega
        have hgb:(Int.gcd t b:Int).natAbs <= b.natAbs:=by
          have:=Nat.le_of_dvd (by omega) (Int.gcd_dvd_natAbs_right t b)
          omega
        have es:(Int.gcd t b:Int) = sg t b:=by unfold sg; rw [if_neg (by omega)]
        subst e1
        walk_at "go"
        rw [es]
        have hc:∀ z,CDivB z (sg t b):=fun _ => ⟨sg_ne hb0,Sm.le (by rw [sg_natAbs]; omega) hs2⟩
        refine r_fdiv (hc _) ?_
        walk_at "go"
        refine r_fdiv (hc _) ?_
        walk_at "go"
        refine r_tupK fun p hp => ?_
        walk_at "go"
        exact q p hp
    . intro σ H Q Q' hQ h
      obtain ⟨v,e1,i,j,e2,e3,b',e4,q'⟩:=h
      exact ⟨v,e1,i,j,e2,e3,b',e4,hQ _ _ q'⟩
set_option maxHeartbeats 0 in
theorem ok_posts (T:Bl mg) (d:Df K mg "_law_posts" s_posts ["_law_number_here"]  ):Okf P w K mg base (k + 1) "_law_posts" ["_law_number_here"] spPosts24:=by
  refine Okf.of d sc_posts (fun vs H Q E h => ?_) (fun f cdv A outer s H vs Q E hr h => ?_)
  . obtain ⟨c,rfl,_⟩:=h
    rfl
  . obtain ⟨c,rfl,q⟩:=h
    refine ⟨_,(@pss_cons _ _ _ _ _ (@ps_set _ _ (i:=1) _ _ _ _ sc_posts.nd rfl (by first | exact Or.inl rfl | exact Or.inr rfl) (@pe_str _ _ _ _) (by rfl) (by first | exact .inl rfl | exact .inr rfl | assumption)) (@pss_cons _ _ _ _ _ (@ps_set _ _ (i:=2) _ _ _ _ sc_posts.nd rfl (by first | exact Or.inl rfl | exact Or.inr rfl) (@pe_op _ _ _ _ _ _ _ _ op_addA (@pe_int _ _ _ _) (@pe_op _ _ _ _ _ _ _ _ op_mod (pv 0) (@pe_int _ _ _ _))) (by rfl) (by first | exact .inl rfl | exact .inr rfl | assumption)) (@pss_cons _ _ _ _ _ (@ps_set _ _ (i:=3) _ _ _ _ sc_posts.nd rfl (by first | exact Or.inl rfl | exact Or.inr rfl) (@pe_op _ _ _ _ _ _ _ _ op_mod (@pe_op _ _ _ _ _ _ _ _ op_fdivB (pv 0) (@pe_int _ _ _ _)) (@pe_int _ _ _ _)) (by rfl) (by first | exact .inl rfl | exact .inr rfl | assumption)) (@pss_cons _ _ _ _ _ (@ps_set _ _ (i:=0) _ _ _ _ sc_posts.nd rfl (by first | exact Or.inl rfl | exact Or.inr rfl) (@pe_op _ _ _ _ _ _ _ _ op_fdivB (pv 0) (@pe_int _ _ _ _)) (by rfl) (by first | exact .inl rfl | exact .inr rfl | assumption)) (@pss_cons _ _ _ _ _ (@ps_set _ _ (i:=4) _ _ _ _ sc_posts.nd rfl (by first | exact Or.inl rfl | exact Or.inr rfl) (@pe_str _ _ _ _) (by rfl) (by first | exact .inl rfl | exact .inr rfl | assumption)) (@pss_cons _ _ _ _ _ (@ps_for _ _ _ _ _ _ _ _ PassesOwn.never rfl (@pi_range1 _ _ _ _ _ _ rfl T.z_range (@pa_cons _ _ _ _ _ (pv 3) (@pa_nil _) (by rfl)) (by rfl)) (@pg_name _ _ (i:=5) _ sc_posts.nd rfl (by first | exact Or.inl rfl | exact Or.inr rfl) (by first | exact .inl rfl | exact .inr rfl | assumption)) (@pss_cons _ _ _ _ _ (@ps_set _ _ (i:=4) _ _ _ _ sc_posts.nd rfl (by first | exact Or.inl rfl | exact Or.inr rfl) (@pe_op _ _ _ _ _ _ _ _ op_addA (pv 4) (@pe_ix _ _ _ _ _ _ _ ix_LT (pv 1) (@pe_op _ _ _ _ _ _ _ _ op_mod (pv 0) (@pe_int _ _ _ _)) (fun _ _ => rfl))) (by rfl) (by first | exact .inl rfl | exact .inr rfl | assumption)) (@pss_one _ _ _ (@ps_set _ _ (i:=0) _ _ _ _ sc_posts.nd rfl (by first | exact Or.inl rfl | exact Or.inr rfl) (@pe_op _ _ _ _ _ _ _ _ op_fdivB (pv 0) (@pe_int _ _ _ _)) (by rfl) (by first | exact .inl rfl | exact .inr rfl | assumption)))) (by intro _; rfl)) (@pss_cons _ _ _ _ _ (@ps_set _ _ (i:=6) _ _ _ _ sc_posts.nd rfl (by first | exact Or.inl rfl | exact Or.inr rfl) (@pe_op _ _ _ _ _ _ _ _ op_mod (pv 0) (@pe_op _ _ _ _ _ _ _ _ op_addA (pv 3) (@pe_int _ _ _ _))) (by rfl) (by first | exact .inl rfl | exact .inr rfl | assumption)) (@pss_cons _ _ _ _ _ (@ps_set _ _ (i:=0) _ _ _ _ sc_posts.nd rfl (by first | exact Or.inl rfl | exact Or.inr rfl) (@pe_op _ _ _ _ _ _ _ _ op_fdivB (pv 0) (@pe_int _ _ _ _)) (by rfl) (by first | exact .inl rfl | exact .inr rfl | assumption)) (@pss_cons _ _ _ _ _ (@ps_set _ _ (i:=7) _ _ _ _ sc_posts.nd rfl (by first | exact Or.inl rfl | exact Or.inr rfl) (@pe_lst _ _ _ _ (@pa_nil _)) (by rfl) (by first | exact .inl rfl | exact .inr rfl | assumption)) (@pss_cons _ _ _ _ _ (@ps_for _ _ _ _ _ _ _ _ PassesOwn.never rfl (@pi_range1 _ _ _ _ _ _ rfl T.z_range (@pa_cons _ _ _ _ _ (pv 2) (@pa_nil _) (by rfl)) (by rfl)) (@pg_name _ _ (i:=5) _ sc_posts.nd rfl (by first | exact Or.inl rfl | exact Or.inr rfl) (by first | exact .inl rfl | exact .inr rfl | assumption)) (@pss_cons _ _ _ _ _ (@ps_set _ _ (i:=8) _ _ _ _ sc_posts.nd rfl (by first | exact Or.inl rfl | exact Or.inr rfl) (@pe_ix _ _ _ _ _ _ _ ix_LT (@pe_lst _ _ _ _ (@pa_cons _ _ _ _ _ (@pe_str _ _ _ _) (@pa_cons _ _ _ _ _ (@pe_str _ _ _ _) (@pa_cons _ _ _ _ _ (@pe_str _ _ _ _) (@pa_cons _ _ _ _ _ (@pe_str _ _ _ _) (@pa_cons _ _ _ _ _ (@pe_str _ _ _ _) (@pa_cons _ _ _ _ _ (@pe_str _ _ _ _) (@pa_nil _) (by rfl)) (by rfl)) (by rfl)) (by rfl)) (by rfl)) (by rfl))) (@pe_op _ _ _ _ _ _ _ _ op_mod (@pe_op _ _ _ _ _ _ _ _ op_addA (@pe_op _ _ _ _ _ _ _ _ op_fdivB (pv 0) (@pe_int _ _ _ _)) (pv 5)) (@pe_int _ _ _ _)) (fun _ _ => rfl)) (by rfl) (by first | exact .inl rfl | exact .inr rfl | assumption)) (@pss_cons _ _ _ _ _ (@ps_set _ _ (i:=9) _ _ _ _ sc_posts.nd rfl (by first | exact Or.inl rfl | exact Or.inr rfl) (@pe_ix _ _ _ _ _ _ _ ix_LT (pv 1) (@pe_op _ _ _ _ _ _ _ _ op_mod (@pe_op _ _ _ _ _ _ _ _ op_addA (pv 0) (@pe_op _ _ _ _ _ _ _ _ op_mulB (@pe_int _ _ _ _) (pv 5))) (@pe_int _ _ _ _)) (fun _ _ => rfl)) (by rfl) (by first | exact .inl rfl | exact .inr rfl | assumption)) (@pss_one _ _ _ (@ps_expr _ _ _ _ (@pe_bm _ _ _ _ _ _ _ _ _ _ _ _ PySem.F.plainAttrs_list PySem.F.slot_list_append PySem.F.type_list_append mt_append (pv 7) (@pa_cons _ _ _ _ _ (@pe_op _ _ _ _ _ _ _ _ op_addA (@pe_op _ _ _ _ _ _ _ _ op_addA (@pe_op _ _ _ _ _ _ _ _ op_addA (@pe_slice _ _ _ _ _ _ _ _ _ _ sl_str (pv 4) (@po_none _) (@po_some _ _ _ (pv 6))) (pv 9)) (@pe_slice _ _ _ _ _ _ _ _ _ _ sl_str (pv 4) (@po_some _ _ _ (pv 6)) (@po_none _))) (pv 8)) (@pa_nil _) (by rfl)) (by rfl) (by rfl) (by rfl) (by rfl) (by rfl)) (by rfl))))) (by intro _; rfl)) (@pss_one _ _ _ (@ps_ret _ _ _ _ (pv 7))))))))))))),?_⟩
    try dsimp only [cxK_nox,cxK_of]
    have h26:abc.length <= 100000:=by rw [abc_len]; decide
    walk_at "go"
    have a0:=Int.emod_nonneg c (show (7:Int) ≠ 0 by decide)
    have a1:=Int.emod_lt_of_pos c (show (0:Int) < 7 by decide)
    have b0:=Int.emod_nonneg (c.fdiv 7) (show (8:Int) ≠ 0 by decide)
    have b1:=Int.emod_lt_of_pos (c.fdiv 7) (show (0:Int) < 8 by decide)
    generalize c % 7 = cnt at *
    generalize c.fdiv 7 % 8 = size at *
    generalize c.fdiv 56 = num0
    refine r_rng1K (by omega) (by omega) ?_
    refine r_forRo (n:=size.toNat) (fun i σ G => ∃ (num:Int) (z:Str) (o5:Option V),σ = [some (.int num),some (.str abc),some (.int (2 + cnt)),some (.int size),some (.str z),o5,none,none,none,none] /\ G = H /\ z.length <= i) ⟨num0,_,_,rfl,rfl,by decide +kernel⟩ ?_ ?_
    . intro P' rt' bk' hP'
      rintro i σ G hi ⟨num,z,o5,rfl,rfl,hz⟩
      obtain ⟨j,hj,ej⟩:∃ j:Nat,j < 26 /\ num % 26 = (j:Int):=⟨(num % 26).toNat,by omega,by omega⟩
      walk_at "go"
      rw [ej]
      refine r_ixS h26 (abc_at j hj) ?_
      have h1:(⟨#[97 + j]⟩:Str).length = 1:=rfl
      refine r_addS (by rw [h1]; omega) ?_
      walk_at "go"
      exact hP' _ _ _ ⟨_,_,_,rfl,rfl,by rw [len_app,h1]; omega⟩
    rintro σ G ⟨num,z,o5,rfl,rfl,hz⟩
    walk_at "go"
    refine r_lstK fun ln hln => ?_
    walk_at "go"
    generalize num % (size + 1) = spot
    generalize num.fdiv 8 = num2
    refine r_rng1K (by omega) (by omega) ?_
    refine r_forRo (n:=(2 + cnt).toNat) (fun i σ G1 => ∃ (U:List Str) (o5 o8 o9:Option V),σ = [some (.int num2),some (.str abc),some (.int (2 + cnt)),some (.int size),some (.str z),o5,some (.int spot),some (.ref ln),o8,o9] /\ Kp ln G G1 /\ G1 ln = some (.lst (U.map V.str)) /\ U.length = i) ⟨[],_,_,_,rfl,Kp.new hln,upd_same,rfl⟩ ?_ ?_
    . intro P' rt' bk' hP'
      rintro i σ G1 hi ⟨U,o5,o8,o9,rfl,kp,hG1,hUl⟩
      walk_at "go"
      refine r_lstK fun l6 hl6 => ?_
      have s1:=Same.new (o:=.lst [V.str "",V.str ".x",V.str ".ab.c",V.str ".zzzzzzzz.y.a",V.str "",V.str ""]) hl6
      have hl6':=upd_same (H:=G1) (a:=l6) (o:=.lst [V.str "",V.str ".x",V.str ".ab.c",V.str ".zzzzzzzz.y.a",V.str "",V.str ""])
      generalize L2.upd G1 l6 (.lst [V.str "",V.str ".x",V.str ".ab.c",V.str ".zzzzzzzz.y.a",V.str "",V.str ""]) = G2 at s1 hl6' ⊢
      walk_at "go"
      obtain ⟨t,et,ht⟩:=at6 ((num2.fdiv 26 + (0 + (i:Int))) % 6) (Int.emod_nonneg _ (by decide)) (Int.emod_lt_of_pos _ (by decide))
      refine r_ixl hl6' et ?_
      obtain ⟨j,hj,ej⟩:∃ j:Nat,j < 26 /\ (num2 + 3 * (0 + (i:Int))) % 26 = (j:Int):=⟨((num2 + 3 * (0 + (i:Int))) % 26).toNat,by omega,by omega⟩
      walk_at "go"
      rw [ej]
      refine r_ixS h26 (abc_at j hj) ?_
      have h1:(⟨#[97 + j]⟩:Str).length = 1:=rfl
      generalize (⟨#[97 + j]⟩:Str) = sg at h1 ⊢
      have hG2:=s1 _ _ hG1
      walk_at "go"
      refine r_slS (by omega) fun y1 hy1 => ?_
      walk_at "go"
      refine r_addS (by omega) ?_
      walk_at "go"
      refine r_slS (by omega) fun y2 hy2 => ?_
      walk_at "go"
      refine r_addS (by rw [len_app]; omega) ?_
      walk_at "go"
      refine r_addS (by rw [len_app,len_app]; omega) ?_
      generalize y1 ++ sg ++ y2 ++ t = nm
      walk_at "go"
      refine r_app (s1 _ _ hG1) (by rw [List.length_map]; omega) ?_
      walk_at "go"
      exact hP' _ _ _ ⟨U ++ [nm],_,_,_,rfl,(kp.trans s1.kp).trans Kp.upd,by rw [List.map_append]; exact upd_same,by rw [List.length_append,hUl]; rfl⟩
    rintro σ G1 ⟨U,o5,o8,o9,rfl,kp,hG1,hUl⟩
    walk_at "go"
    exact q ln G1 U hln (fun b o h => kp _ _ (ne_of_none h hln) h) hG1 (by omega) (by omega)
set_option maxHeartbeats 0 in
theorem ok_time (T:Bl mg) (d:Df K mg "_law_time" s_time ["_law_number_here"]  ):Okf P w K mg base (k + 1) "_law_time" ["_law_number_here"] spTime24:=by
  refine Okf.of d sc_time (fun vs H Q E h => ?_) (fun f cdv A outer s H vs Q E hr h => ?_)
  . obtain ⟨c,rfl,_⟩:=h
    rfl
  . obtain ⟨c,rfl,q⟩:=h
    refine ⟨_,(@pss_one _ _ _ (@ps_ret _ _ _ _ (@pe_op _ _ _ _ _ _ _ _ op_addA (@pe_int _ _ _ _) (@pe_op _ _ _ _ _ _ _ _ op_mod (@pe_op _ _ _ _ _ _ _ _ op_fdivB (pv 0) (@pe_int _ _ _ _)) (@pe_ix _ _ _ _ _ _ _ ix_LT (@pe_lst _ _ _ _ (@pa_cons _ _ _ _ _ (@pe_int _ _ _ _) (@pa_cons _ _ _ _ _ (@pe_int _ _ _ _) (@pa_cons _ _ _ _ _ (@pe_int _ _ _ _) (@pa_cons _ _ _ _ _ (@pe_op _ _ _ _ _ _ _ _ op_pow (@pe_int _ _ _ _) (@pe_int _ _ _ _)) (@pa_nil _) (by rfl)) (by rfl)) (by rfl)) (by rfl))) (@pe_op _ _ _ _ _ _ _ _ op_mod (pv 0) (@pe_int _ _ _ _)) (fun _ _ => rfl)))))),?_⟩
    try dsimp only [cxK_nox,cxK_of]
    walk_at "go"
    refine r_pow30' ?_
    walk_at "go"
    refine r_lstK fun l4 hl4 => ?_
    have s1:=Same.new (o:=.lst [V.int 9,V.int 9,V.int 1000,V.int 1000000000000000000000000000000]) hl4
    have hl':=upd_same (H:=H) (a:=l4) (o:=.lst [V.int 9,V.int 9,V.int 1000,V.int 1000000000000000000000000000000])
    generalize L2.upd H l4 (.lst [V.int 9,V.int 9,V.int 1000,V.int 1000000000000000000000000000000]) = G2 at s1 hl' ⊢
    walk_at "go"
    obtain ⟨t,et,ht⟩:=at4 (x0:=9) (x1:=9) (x2:=1000) (x3:=1000000000000000000000000000000) (fun z => 0 < z /\ z <= 10 ^ 30) (by decide) (by decide) (by decide) (by decide) (c % 4) (Int.emod_nonneg _ (by decide)) (Int.emod_lt_of_pos _ (by decide))
    refine r_ixl hl' et ?_
    refine r_mod ht.1 ?_
    have m0:=Int.emod_nonneg (c.fdiv 4) (show t ≠ 0 by omega)
    have m1:=Int.emod_lt_of_pos (c.fdiv 4) ht.1
    generalize c.fdiv 4 % t = z at *
    walk_at "go"
    exact q _ _ s1 (by omega) (by omega)
set_option maxHeartbeats 0 in
theorem ok_here (T:Bl mg) (d:Df K mg "_law_here" s_here ["_law_script","_law_most"]  ) (o_time:Okf P w K mg base k "_law_time" ["_law_number_here"] spTime24) (o_number:Okf P w K mg base k "_law_number" ["_law_script","_law_k"] (spNum24 K)) (o_posts:Okf P w K mg base k "_law_posts" ["_law_number_here"] spPosts24):Okf P w K mg base (k + 1) "_law_here" ["_law_script","_law_most"] (spHere24 K):=by
  refine Okf.of d sc_here (fun vs H Q E h => ?_) (fun f cdv A outer s H vs Q E hr h => ?_)
  . obtain ⟨a,ns,rfl,_⟩:=h
    rfl
  . obtain ⟨a,ns,rfl,hS,h63,q⟩:=h
    refine ⟨_,(@pss_cons _ _ _ _ _ (@ps_set _ _ (i:=2) _ _ _ _ sc_here.nd rfl (by first | exact Or.inl rfl | exact Or.inr rfl) (@pe_callO _ _ _ _ _ _ _ _ _ _ o_posts hr rfl (@pa_cons _ _ _ _ _ (@pe_callO _ _ _ _ _ _ _ _ _ _ o_number hr rfl (@pa_cons _ _ _ _ _ (pv 0) (@pa_cons _ _ _ _ _ (@pe_int _ _ _ _) (@pa_nil _) (by rfl)) (by rfl)) (by decide) (by rfl) (by rfl)) (@pa_nil _) (by rfl)) (by decide) (by rfl) (by rfl)) (by rfl) (by first | exact .inl rfl | exact .inr rfl | assumption)) (@pss_cons _ _ _ _ _ (@ps_set _ _ (i:=3) _ _ _ _ sc_here.nd rfl (by first | exact Or.inl rfl | exact Or.inr rfl) (@pe_callO _ _ _ _ _ _ _ _ _ _ o_number hr rfl (@pa_cons _ _ _ _ _ (pv 0) (@pa_cons _ _ _ _ _ (@pe_int _ _ _ _) (@pa_nil _) (by rfl)) (by rfl)) (by decide) (by rfl) (by rfl)) (by rfl) (by first | exact .inl rfl | exact .inr rfl | assumption)) (@pss_cons _ _ _ _ _ (@ps_set _ _ (i:=3) _ _ _ _ sc_here.nd rfl (by first | exact Or.inl rfl | exact Or.inr rfl) (@pe_op _ _ _ _ _ _ _ _ op_addA (@pe_int _ _ _ _) (@pe_op _ _ _ _ _ _ _ _ op_mod (@pe_op _ _ _ _ _ _ _ _ op_fdivB (pv 3) (@pe_int _ _ _ _)) (@pe_ix _ _ _ _ _ _ _ ix_LT (@pe_lst _ _ _ _ (@pa_cons _ _ _ _ _ (@pe_int _ _ _ _) (@pa_cons _ _ _ _ _ (@pe_int _ _ _ _) (@pa_cons _ _ _ _ _ (@pe_int _ _ _ _) (@pa_cons _ _ _ _ _ (@pe_op _ _ _ _ _ _ _ _ op_pow (@pe_int _ _ _ _) (@pe_int _ _ _ _)) (@pa_nil _) (by rfl)) (by rfl)) (by rfl)) (by rfl))) (@pe_op _ _ _ _ _ _ _ _ op_mod (pv 3) (@pe_int _ _ _ _)) (fun _ _ => rfl)))) (by rfl) (by first | exact .inl rfl | exact .inr rfl | assumption)) (@pss_cons _ _ _ _ _ (@ps_set _ _ (i:=4) _ _ _ _ sc_here.nd rfl (by first | exact Or.inl rfl | exact Or.inr rfl) (@pe_disp _ _ _ _ _ (@pps_cons _ _ _ _ _ _ _ _ _ (@pe_str _ _ _ _) (pv 2) (@pps_cons _ _ _ _ _ _ _ _ _ (@pe_str _ _ _ _) (pv 3) (@pps_cons _ _ _ _ _ _ _ _ _ (@pe_str _ _ _ _) (@pe_lst _ _ _ _ (@pa_nil _)) (@pps_cons _ _ _ _ _ _ _ _ _ (@pe_str _ _ _ _) (@pe_lst _ _ _ _ (@pa_nil _)) (@pps_cons _ _ _ _ _ _ _ _ _ (@pe_str _ _ _ _) (@pe_lst _ _ _ _ (@pa_nil _)) (@pps_nil _ _)))))) rfl rfl (List.cons_ne_nil _ _) (Nat.le_of_ble_eq_true rfl)) (by rfl) (by first | exact .inl rfl | exact .inr rfl | assumption)) (@pss_cons _ _ _ _ _ (@ps_for _ _ _ _ _ _ _ _ PassesOwn.never rfl (@pi_range2 _ _ _ _ _ _ _ rfl T.z_range (@pa_cons _ _ _ _ _ (@pe_int _ _ _ _) (@pa_cons _ _ _ _ _ (@pe_callB _ _ _ _ _ _ _ _ _ (c_max rfl) rfl T.z_max bt_max (@pa_cons _ _ _ _ _ (@pe_int _ _ _ _) (@pa_cons _ _ _ _ _ (@pe_callB _ _ _ _ _ _ _ _ _ (c_min rfl) rfl T.z_min bt_min (@pa_cons _ _ _ _ _ (@pe_callB _ _ _ _ _ _ _ _ _ c_len rfl T.z_len bt_len (@pa_cons _ _ _ _ _ (pv 0) (@pa_nil _) (by rfl)) (by decide) (by decide) (by rfl) (by rfl)) (@pa_cons _ _ _ _ _ (pv 1) (@pa_nil _) (by rfl)) (by rfl)) (by decide) (by decide) (by rfl) (by rfl)) (@pa_nil _) (by rfl)) (by rfl)) (by decide) (by decide) (by rfl) (by rfl)) (@pa_nil _) (by rfl)) (by rfl)) (by rfl) (by rfl)) (@pg_name _ _ (i:=5) _ sc_here.nd rfl (by first | exact Or.inl rfl | exact Or.inr rfl) (by first | exact .inl rfl | exact .inr rfl | assumption)) (@pss_cons _ _ _ _ _ (@ps_set _ _ (i:=6) _ _ _ _ sc_here.nd rfl (by first | exact Or.inl rfl | exact Or.inr rfl) (@pe_callO _ _ _ _ _ _ _ _ _ _ o_number hr rfl (@pa_cons _ _ _ _ _ (pv 0) (@pa_cons _ _ _ _ _ (pv 5) (@pa_nil _) (by rfl)) (by rfl)) (by decide) (by rfl) (by rfl)) (by rfl) (by first | exact .inl rfl | exact .inr rfl | assumption)) (@pss_cons _ _ _ _ _ (@ps_set _ _ (i:=7) _ _ _ _ sc_here.nd rfl (by first | exact Or.inl rfl | exact Or.inr rfl) (@pe_op _ _ _ _ _ _ _ _ op_mod (pv 6) (@pe_int _ _ _ _)) (by rfl) (by first | exact .inl rfl | exact .inr rfl | assumption)) (@pss_cons _ _ _ _ _ (@ps_set _ _ (i:=8) _ _ _ _ sc_here.nd rfl (by first | exact Or.inl rfl | exact Or.inr rfl) (@pe_op _ _ _ _ _ _ _ _ op_mod (@pe_op _ _ _ _ _ _ _ _ op_fdivB (pv 6) (@pe_int _ _ _ _)) (@pe_callB _ _ _ _ _ _ _ _ _ c_len rfl T.z_len bt_len (@pa_cons _ _ _ _ _ (pv 2) (@pa_nil _) (by rfl)) (by decide) (by decide) (by rfl) (by rfl))) (by rfl) (by first | exact .inl rfl | exact .inr rfl | assumption)) (@pss_cons _ _ _ _ _ (@ps_set _ _ (i:=9) _ _ _ _ sc_here.nd rfl (by first | exact Or.inl rfl | exact Or.inr rfl) (@pe_op _ _ _ _ _ _ _ _ op_mod (@pe_op _ _ _ _ _ _ _ _ op_addA (@pe_op _ _ _ _ _ _ _ _ op_addA (pv 8) (@pe_int _ _ _ _)) (@pe_op _ _ _ _ _ _ _ _ op_mod (@pe_op _ _ _ _ _ _ _ _ op_fdivB (pv 6) (@pe_int _ _ _ _)) (@pe_op _ _ _ _ _ _ _ _ op_sub (@pe_callB _ _ _ _ _ _ _ _ _ c_len rfl T.z_len bt_len (@pa_cons _ _ _ _ _ (pv 2) (@pa_nil _) (by rfl)) (by decide) (by decide) (by rfl) (by rfl)) (@pe_int _ _ _ _)))) (@pe_callB _ _ _ _ _ _ _ _ _ c_len rfl T.z_len bt_len (@pa_cons _ _ _ _ _ (pv 2) (@pa_nil _) (by rfl)) (by decide) (by decide) (by rfl) (by rfl))) (by rfl) (by first | exact .inl rfl | exact .inr rfl | assumption)) (@pss_one _ _ _ (@ps_if _ _ _ _ _ _ _ _ (@PW.pt _ _ _ (@pw_or _ _ _ _ _ _ _ (@pt_cmpR _ _ _ _ _ _ _ _ op_lt (pv 7) (@pe_int _ _ _ _) (nomark _)) (@pw_or1 _ _ _ _ (@pt_cmpR _ _ _ _ _ _ _ _ (op_eqA hr.units) (@pe_dget _ _ _ _ _ _ hr.u1 (pv 4) (@pe_str _ _ _ _) (fun _ _ => rfl)) (@pe_lst _ _ _ _ (@pa_nil _)) (nomark _))))) (@pss_one _ _ _ (@ps_expr _ _ _ _ (@pe_bm _ _ _ _ _ _ _ _ _ _ _ _ PySem.F.plainAttrs_list PySem.F.slot_list_append PySem.F.type_list_append mt_append (@pe_dget _ _ _ _ _ _ hr.u1 (pv 4) (@pe_str _ _ _ _) (fun _ _ => rfl)) (@pa_cons _ _ _ _ _ (@pe_tup _ _ _ _ _ (@pa_cons _ _ _ _ _ (pv 8) (@pa_cons _ _ _ _ _ (pv 9) (@pa_cons _ _ _ _ _ (@pe_callO _ _ _ _ _ _ _ _ _ _ o_time hr rfl (@pa_cons _ _ _ _ _ (@pe_op _ _ _ _ _ _ _ _ op_fdivB (pv 6) (@pe_int _ _ _ _)) (@pa_nil _) (by rfl)) (by decide) (by rfl) (by rfl)) (@pa_nil _) (by rfl)) (by rfl)) (by rfl))) (@pa_nil _) (by rfl)) (by rfl) (by rfl) (by rfl) (by rfl) (by rfl)) (by rfl))) (@pss_one _ _ _ (@ps_if _ _ _ _ _ _ _ _ (@pt_cmpR _ _ _ _ _ _ _ _ op_lt (pv 7) (@pe_int _ _ _ _) (nomark _)) (@pss_cons _ _ _ _ _ (@ps_set _ _ (i:=10) _ _ _ _ sc_here.nd rfl (by first | exact Or.inl rfl | exact Or.inr rfl) (@pe_op _ _ _ _ _ _ _ _ op_mod (@pe_op _ _ _ _ _ _ _ _ op_fdivB (pv 6) (@pe_int _ _ _ _)) (@pe_ix _ _ _ _ _ _ _ ix_LT (@pe_lst _ _ _ _ (@pa_cons _ _ _ _ _ (@pe_int _ _ _ _) (@pa_cons _ _ _ _ _ (@pe_int _ _ _ _) (@pa_cons _ _ _ _ _ (@pe_int _ _ _ _) (@pa_cons _ _ _ _ _ (@pe_op _ _ _ _ _ _ _ _ op_pow (@pe_int _ _ _ _) (@pe_int _ _ _ _)) (@pa_nil _) (by rfl)) (by rfl)) (by rfl)) (by rfl))) (@pe_op _ _ _ _ _ _ _ _ op_mod (@pe_op _ _ _ _ _ _ _ _ op_fdivB (pv 6) (@pe_int _ _ _ _)) (@pe_int _ _ _ _)) (fun _ _ => rfl))) (by rfl) (by first | exact .inl rfl | exact .inr rfl | assumption)) (@pss_one _ _ _ (@ps_expr _ _ _ _ (@pe_bm _ _ _ _ _ _ _ _ _ _ _ _ PySem.F.plainAttrs_list PySem.F.slot_list_append PySem.F.type_list_append mt_append (@pe_dget _ _ _ _ _ _ hr.u1 (pv 4) (@pe_str _ _ _ _) (fun _ _ => rfl)) (@pa_cons _ _ _ _ _ (@pe_tup _ _ _ _ _ (@pa_cons _ _ _ _ _ (pv 8) (@pa_cons _ _ _ _ _ (pv 10) (@pa_nil _) (by rfl)) (by rfl))) (@pa_nil _) (by rfl)) (by rfl) (by rfl) (by rfl) (by rfl) (by rfl)) (by rfl)))) (@pss_cons _ _ _ _ _ (@ps_set _ _ (i:=10) _ _ _ _ sc_here.nd rfl (by first | exact Or.inl rfl | exact Or.inr rfl) (@pe_op _ _ _ _ _ _ _ _ op_mod (@pe_op _ _ _ _ _ _ _ _ op_fdivB (pv 6) (@pe_int _ _ _ _)) (@pe_ix _ _ _ _ _ _ _ ix_LT (@pe_lst _ _ _ _ (@pa_cons _ _ _ _ _ (@pe_int _ _ _ _) (@pa_cons _ _ _ _ _ (@pe_int _ _ _ _) (@pa_cons _ _ _ _ _ (@pe_int _ _ _ _) (@pa_cons _ _ _ _ _ (@pe_op _ _ _ _ _ _ _ _ op_pow (@pe_int _ _ _ _) (@pe_int _ _ _ _)) (@pa_nil _) (by rfl)) (by rfl)) (by rfl)) (by rfl))) (@pe_op _ _ _ _ _ _ _ _ op_mod (pv 9) (@pe_int _ _ _ _)) (fun _ _ => rfl))) (by rfl) (by first | exact .inl rfl | exact .inr rfl | assumption)) (@pss_one _ _ _ (@ps_expr _ _ _ _ (@pe_bm _ _ _ _ _ _ _ _ _ _ _ _ PySem.F.plainAttrs_list PySem.F.slot_list_append PySem.F.type_list_append mt_append (@pe_dget _ _ _ _ _ _ hr.u1 (pv 4) (@pe_str _ _ _ _) (fun _ _ => rfl)) (@pa_cons _ _ _ _ _ (@pe_tup _ _ _ _ _ (@pa_cons _ _ _ _ _ (@pe_op _ _ _ _ _ _ _ _ op_mod (@pe_op _ _ _ _ _ _ _ _ op_fdivB (pv 6) (@pe_int _ _ _ _)) (@pe_callB _ _ _ _ _ _ _ _ _ c_len rfl T.z_len bt_len (@pa_cons _ _ _ _ _ (@pe_dget _ _ _ _ _ _ hr.u1 (pv 4) (@pe_str _ _ _ _) (fun _ _ => rfl)) (@pa_nil _) (by rfl)) (by decide) (by decide) (by rfl) (by rfl))) (@pa_cons _ _ _ _ _ (pv 10) (@pa_nil _) (by rfl)) (by rfl))) (@pa_nil _) (by rfl)) (by rfl) (by rfl) (by rfl) (by rfl) (by rfl)) (by rfl)))))))))))) (by intro _; rfl)) (@pss_one _ _ _ (@ps_ret _ _ _ _ (pv 4)))))))),?_⟩
    try dsimp only [cxK_nox,cxK_of]
    walk_at "go"
    refine ⟨a,ns,1,rfl,hS,by decide,by decide,fun r1 => ?_⟩
    walk_at "go"
    refine ⟨r1,rfl,fun ln H1 U hln s1 hU hU2 hU8 => ?_⟩
    walk_at "go"
    refine ⟨a,ns,2,rfl,s1.seq hS,by decide,by decide,fun r2 => ?_⟩
    walk_at "go"
    refine r_pow12 ?_
    walk_at "go"
    refine r_lstK fun l4 hl4 => ?_
    have s2:=s1.trans (Same.new (o:=.lst [V.int 1,V.int 12,V.int 60,V.int 1000000000000]) hl4)
    have hU1:=upd_old (o:=.lst [V.int 1,V.int 12,V.int 60,V.int 1000000000000]) hl4 hU
    have hl':=upd_same (H:=H1) (a:=l4) (o:=.lst [V.int 1,V.int 12,V.int 60,V.int 1000000000000])
    generalize L2.upd H1 l4 (.lst [V.int 1,V.int 12,V.int 60,V.int 1000000000000]) = H2 at s2 hl' hU1 ⊢
    walk_at "go"
    obtain ⟨t,et,ht⟩:=at4 (x0:=1) (x1:=12) (x2:=60) (x3:=1000000000000) (fun z => 0 < z /\ z <= 10 ^ 12) (by decide) (by decide) (by decide) (by decide) (r2 % 4) (Int.emod_nonneg _ (by decide)) (Int.emod_lt_of_pos _ (by decide))
    refine r_ixl hl' et ?_
    refine r_mod ht.1 ?_
    have m0:=Int.emod_nonneg (r2.fdiv 4) (show t ≠ 0 by omega)
    have m1:=Int.emod_lt_of_pos (r2.fdiv 4) ht.1
    generalize r2.fdiv 4 % t = z at *
    walk_at "go"
    generalize hu:1 + z = u
    have u0:0 < u:=by omega
    have u1:u <= 10 ^ 12:=by omega
    clear hl' et hU m0 m1 ht hu
    refine r_disp5 fun dd hdd => ?_
    have sd:=Same.new (o:=.dK []) hdd
    walk_at "go"
    refine r_lstK fun lr hlr => ?_
    walk_at "go"
    refine r_lstK fun lp hlp => ?_
    walk_at "go"
    refine r_lstK fun lt hlt => ?_
    have hlr2:H2 lr = none:=sd.free hlr
    have sr:=sd.trans (Same.new (o:=.lst []) hlr)
    have hlp2:H2 lp = none:=sr.free hlp
    have sp:=sr.trans (Same.new (o:=.lst []) hlp)
    have hlt2:H2 lt = none:=sp.free hlt
    have st:=sp.trans (Same.new (o:=.lst []) hlt)
    have ndr:dd ≠ lr:=ne_of_none upd_same hlr
    have ndp:dd ≠ lp:=ne_of_none (upd_old hlr upd_same) hlp
    have ndt:dd ≠ lt:=ne_of_none (upd_old hlp (upd_old hlr upd_same)) hlt
    have nrp:lr ≠ lp:=ne_of_none upd_same hlp
    have nrt:lr ≠ lt:=ne_of_none (upd_old hlp upd_same) hlt
    have npt:lp ≠ lt:=ne_of_none upd_same hlt
    refine dsp5_here (upd_old hlt (upd_old hlp (upd_old hlr upd_same))) ?_
    have G0:HereG H2 (L2.upd (L2.upd (L2.upd (L2.upd (L2.upd H2 dd (.dK [])) lr (.lst [])) lp (.lst [])) lt (.lst [])) dd (.dK (hereK ln u lr lp lt))) dd U u [] [] [] ln lr lp lt 0 :=
      ⟨⟨u0,u1,hU2,hU8,(fun _ h => nomatch h),(fun _ h => nomatch h),(fun _ h => nomatch h),Nat.le_refl _⟩,
       ⟨upd_same,upd_not (ne_of_none hU1 hdd) (st _ _ hU1),⟨[],upd_not (Ne.symm ndr) (upd_old hlt (upd_old hlp upd_same)),.nil⟩,⟨[],upd_not (Ne.symm ndp) (upd_old hlt upd_same),.nil⟩,⟨[],upd_not (Ne.symm ndt) upd_same,.nil⟩⟩,
       Kp.upd.sm st hdd,hlr2,hlp2,hlt2,nrp,nrt,npt,(fun z => nomatch z)⟩
    generalize L2.upd (L2.upd (L2.upd (L2.upd (L2.upd H2 dd (.dK [])) lr (.lst [])) lp (.lst [])) lt (.lst [])) dd (.dK (hereK ln u lr lp lt)) = H3 at G0 ⊢
    have nlr:ln ≠ lr:=ne_of_none hU1 hlr2
    have nlp:ln ≠ lp:=ne_of_none hU1 hlp2
    have nlt:ln ≠ lt:=ne_of_none hU1 hlt2
    have hdH:H dd = none:=s2.free hdd
    clear sd sr sp st hlr hlp hlt ndr ndp ndt hl4
    walk_at "go"
    refine r_lenL (s2.trans G0.s |>.seq hS) ?_
    walk_at "go"
    rw [List.length_map]
    generalize hmx:(if (if (23:Int) < (ns.length:Int) then 23 else (ns.length:Int)) > 4 then (if (23:Int) < (ns.length:Int) then 23 else (ns.length:Int)) else 4) = mx
    have x0:4 <= mx:=by
      rw [← hmx]
      split <;> split at * <;> omega
    have x1:mx <= 23:=by
      rw [← hmx]
      split <;> split at * <;> omega
    refine r_rng2K (by decide) (by decide) (by omega) (by omega) ?_
    refine r_forRo (n:=(mx - 3).toNat) (fun i σ G => ∃ (rs:List (Int×Int×Int)) (ps ts:List (Int×Int)) (o5 o6 o7 o8 o9 o10:Option V),σ = [some (.ref a),some (.int 23),some (.ref ln),some (.int u),some (.ref dd),o5,o6,o7,o8,o9,o10] /\ HereG H2 G dd U u rs ps ts ln lr lp lt i) ⟨[],[],[],_,_,_,_,_,_,rfl,G0⟩ ?_ ?_
    . intro P' rt' bk' hP'
      rintro i σ G hi ⟨rs,ps,ts,o5,o6,o7,o8,o9,o10,rfl,g⟩
      have sG:=s2.trans g.s
      walk_at "go"
      refine ⟨a,ns,_,rfl,sG.seq hS,by omega,by omega,fun num => ?_⟩
      walk_at "go"
      refine r_lenl g.q.nm ?_
      walk_at "go"
      rw [List.length_map]
      refine r_mod (by omega) ?_
      have a0:=Int.emod_nonneg (num.fdiv 8) (show (U.length:Int) ≠ 0 by omega)
      have a1:=Int.emod_lt_of_pos (num.fdiv 8) (show (0:Int) < U.length by omega)
      generalize num.fdiv 8 % (U.length:Int) = aa at *
      walk_at "go"
      refine r_lenl g.q.nm ?_
      walk_at "go"
      rw [List.length_map]
      refine r_mod (by omega) ?_
      generalize num.fdiv 64 % ((U.length:Int) - 1) = bb0
      walk_at "go"
      refine r_lenl g.q.nm ?_
      walk_at "go"
      rw [List.length_map]
      refine r_mod (by omega) ?_
      have b0:=Int.emod_nonneg (aa + 1 + bb0) (show (U.length:Int) ≠ 0 by omega)
      have b1:=Int.emod_lt_of_pos (aa + 1 + bb0) (show (0:Int) < U.length by omega)
      generalize (aa + 1 + bb0) % (U.length:Int) = bb at *
      walk_at "go"
      refine i_d (fun c1 => ?_) (fun c1 => ?_)
      . walk_at "go"
        refine r_dGs (.inl g.q.d) here_runs ?_
        obtain ⟨vr,hvr,pvr⟩:=id g.q.rq
        have hvl:=Paired.length pvr
        have hil:=g.i.len
        walk_at "go"
        refine ⟨_,rfl,fun tm G1 st1 t0 t1 => ?_⟩
        walk_at "go"
        refine r_tupK fun p hp => ?_
        have st2:=st1.trans (Same.new (o:=.tup [.int aa,.int bb,.int tm]) hp)
        have hp2:=upd_same (H:=G1) (a:=p) (o:=.tup [.int aa,.int bb,.int tm])
        generalize L2.upd G1 p (.tup [.int aa,.int bb,.int tm]) = G2 at st2 hp2 ⊢
        walk_at "go"
        refine r_app (st2 _ _ hvr) (by omega) ?_
        walk_at "go"
        exact hP' _ _ _ ⟨_,_,_,_,_,_,_,_,_,rfl,(g.sm st2).run (x:=(aa,bb,tm)) (st2 _ _ hvr) (Pd.imp pvr fun v b f => f.tk st2.tk) ⟨p,rfl,hp2⟩ ⟨a0,a1,b0,b1,t0,t1⟩ nlr⟩
      . walk_at "go"
        refine r_dGs (.inl g.q.d) here_runs ?_
        obtain ⟨vs0,hvs0,pvs0⟩:=id g.q.rq
        walk_at "go"
        refine r_lstK fun le hle => ?_
        have se:=Same.new (o:=.lst []) hle
        have hle':=upd_same (H:=G) (a:=le) (o:=.lst [])
        generalize L2.upd G le (.lst []) = G0 at se hle' ⊢
        have g0:=g.sm se
        refine e_triE (se _ _ hvs0) (Pd.imp pvs0 fun v b f => f.tk se.tk) hle' ?_
        clear hle' hvs0 pvs0 vs0
        walk_at "go"
        refine i_d (fun hrs => ?_) (fun hrs => ?_)
        . walk_at "go"
          refine r_dGs (.inl g0.q.d) here_runs ?_
          obtain ⟨vr,hvr,pvr⟩:=id g0.q.rq
          have hvl:=Paired.length pvr
          have hil:=g0.i.len
          walk_at "go"
          refine ⟨_,rfl,fun tm G1 st1 t0 t1 => ?_⟩
          walk_at "go"
          refine r_tupK fun p hp => ?_
          have st2:=st1.trans (Same.new (o:=.tup [.int aa,.int bb,.int tm]) hp)
          have hp2:=upd_same (H:=G1) (a:=p) (o:=.tup [.int aa,.int bb,.int tm])
          generalize L2.upd G1 p (.tup [.int aa,.int bb,.int tm]) = G2 at st2 hp2 ⊢
          walk_at "go"
          refine r_app (st2 _ _ hvr) (by omega) ?_
          walk_at "go"
          exact hP' _ _ _ ⟨_,_,_,_,_,_,_,_,_,rfl,(g0.sm st2).run (x:=(aa,bb,tm)) (st2 _ _ hvr) (Pd.imp pvr fun v b f => f.tk st2.tk) ⟨p,rfl,hp2⟩ ⟨a0,a1,b0,b1,t0,t1⟩ nlr⟩
        . walk_at "go"
          refine i_d (fun c2 => ?_) (fun c2 => ?_)
          . walk_at "go"
            refine r_pow30' ?_
            walk_at "go"
            refine r_lstK fun l4 hl4 => ?_
            have st1:=Same.new (o:=.lst [V.int 12,V.int 12,V.int 1000,V.int 1000000000000000000000000000000]) hl4
            have hl':=upd_same (H:=G0) (a:=l4) (o:=.lst [V.int 12,V.int 12,V.int 1000,V.int 1000000000000000000000000000000])
            generalize L2.upd G0 l4 (.lst [V.int 12,V.int 12,V.int 1000,V.int 1000000000000000000000000000000]) = G1 at st1 hl' ⊢
            walk_at "go"
            obtain ⟨t,et,ht⟩:=at4 (x0:=12) (x1:=12) (x2:=1000) (x3:=1000000000000000000000000000000) (fun z => 0 < z /\ z <= 10 ^ 30) (by decide) (by decide) (by decide) (by decide) (num.fdiv 8 % 4) (Int.emod_nonneg _ (by decide)) (Int.emod_lt_of_pos _ (by decide))
            refine r_ixl hl' et ?_
            refine r_mod ht.1 ?_
            have m0:=Int.emod_nonneg (num.fdiv 64) (show t ≠ 0 by omega)
            have m1:=Int.emod_lt_of_pos (num.fdiv 64) ht.1
            generalize num.fdiv 64 % t = mom at *
            have g1:=g0.sm st1
            walk_at "go"
            refine r_dGs (.inl g1.q.d) here_pushes ?_
            obtain ⟨vr,hvr,pvr⟩:=id g1.q.pq
            have hvl:=Paired.length pvr
            have hil:=g1.i.len
            walk_at "go"
            refine r_tupK fun p hp => ?_
            have st2:=Same.new (o:=.tup [.int aa,.int mom]) hp
            have hp2:=upd_same (H:=G1) (a:=p) (o:=.tup [.int aa,.int mom])
            generalize L2.upd G1 p (.tup [.int aa,.int mom]) = G2 at st2 hp2 ⊢
            walk_at "go"
            refine r_app (st2 _ _ hvr) (by omega) ?_
            walk_at "go"
            exact hP' _ _ _ ⟨_,_,_,_,_,_,_,_,_,rfl,(g1.sm st2).pus (x:=(aa,mom)) (st2 _ _ hvr) (Pd.imp pvr fun v b f => f.tk st2.tk) ⟨p,rfl,hp2⟩ ⟨a0,a1,m0,by omega⟩ nlp hrs⟩
          . walk_at "go"
            refine r_pow30' ?_
            walk_at "go"
            refine r_lstK fun l4 hl4 => ?_
            have st1:=Same.new (o:=.lst [V.int 12,V.int 30,V.int 1000,V.int 1000000000000000000000000000000]) hl4
            have hl':=upd_same (H:=G0) (a:=l4) (o:=.lst [V.int 12,V.int 30,V.int 1000,V.int 1000000000000000000000000000000])
            generalize L2.upd G0 l4 (.lst [V.int 12,V.int 30,V.int 1000,V.int 1000000000000000000000000000000]) = G1 at st1 hl' ⊢
            walk_at "go"
            obtain ⟨t,et,ht⟩:=at4 (x0:=12) (x1:=30) (x2:=1000) (x3:=1000000000000000000000000000000) (fun z => 0 < z /\ z <= 10 ^ 30) (by decide) (by decide) (by decide) (by decide) (bb % 4) (Int.emod_nonneg _ (by decide)) (Int.emod_lt_of_pos _ (by decide))
            refine r_ixl hl' et ?_
            refine r_mod ht.1 ?_
            have m0:=Int.emod_nonneg (num.fdiv 512) (show t ≠ 0 by omega)
            have m1:=Int.emod_lt_of_pos (num.fdiv 512) ht.1
            generalize num.fdiv 512 % t = mom at *
            have g1:=g0.sm st1
            walk_at "go"
            refine r_dGs (.inl g1.q.d) here_takings ?_
            obtain ⟨vr,hvr,pvr⟩:=id g1.q.tq
            obtain ⟨vz,hvz,pvz⟩:=id g1.q.rq
            have hvl:=Paired.length pvr
            have hzl:=Paired.length pvz
            have hil:=g1.i.len
            have hr0:0 < rs.length:=List.length_pos_iff.mpr hrs
            walk_at "go"
            refine r_dGs (.inl g1.q.d) here_runs ?_
            walk_at "go"
            have w0:=Int.emod_nonneg (num.fdiv 8) (show (vz.length:Int) ≠ 0 by omega)
            generalize num.fdiv 8 % (vz.length:Int) = wh at *
            walk_at "go"
            refine r_tupK fun p hp => ?_
            have st2:=Same.new (o:=.tup [.int wh,.int mom]) hp
            have hp2:=upd_same (H:=G1) (a:=p) (o:=.tup [.int wh,.int mom])
            generalize L2.upd G1 p (.tup [.int wh,.int mom]) = G2 at st2 hp2 ⊢
            walk_at "go"
            refine r_app (st2 _ _ hvr) (by omega) ?_
            walk_at "go"
            exact hP' _ _ _ ⟨_,_,_,_,_,_,_,_,_,rfl,(g1.sm st2).tak (x:=(wh,mom)) (st2 _ _ hvr) (Pd.imp pvr fun v b f => f.tk st2.tk) ⟨p,rfl,hp2⟩ ⟨w0,m0,by omega⟩ nlt hrs⟩
    rintro σ G ⟨rs,ps,ts,o5,o6,o7,o8,o9,o10,rfl,g⟩
    walk_at "go"
    have hi:=g.i
    refine q dd G U u rs ps ts ln lr lp lt hdH (s2.trans g.s) ⟨hi.u0,hi.u1,hi.n2,hi.n8,hi.rok,hi.pok,hi.tok,Nat.le_trans hi.len (by omega)⟩ g.q
set_option maxHeartbeats 0 in
theorem ok_net (T:Bl mg) (d:Df K mg "_law_net" s_net ["_law_here_here"]  ) (o_low:Okf P w K mg base k "_law_low" ["_law_top","_law_bottom"] spLowest):Okf P w K mg base (k + 1) "_law_net" ["_law_here_here"] spNet24:=by
  refine Okf.of d sc_net (fun vs H Q E h => ?_) (fun f cdv A outer s H vs Q E hr h => ?_)
  . obtain ⟨dd,U,u,rs,ps,ts,ln,lr,lp,lt,rfl,_⟩:=h
    rfl
  . obtain ⟨dd,U,u,rs,ps,ts,ln,lr,lp,lt,rfl,hI,hQ,q⟩:=h
    refine ⟨_,(@pss_cons _ _ _ _ _ (@ps_set _ _ (i:=1) _ _ _ _ sc_net.nd rfl (by first | exact Or.inl rfl | exact Or.inr rfl) (@pe_dget _ _ _ _ _ _ hr.u1 (pv 0) (@pe_str _ _ _ _) (fun _ _ => rfl)) (by rfl) (by first | exact .inl rfl | exact .inr rfl | assumption)) (@pss_one _ _ _ (@ps_ret _ _ _ _ (@pe_comp _ _ _ _ _ _ _ _ _ _ _ _ _ _ (@comp_ck _ _ (sc:=defScope s_net) (N:=["_law_here_here","_law_names"]) (tn:=["_law_a","_law_b","_law_time_here"]) (names:=["_law_names","_law_here_here"]) (is:=[1,0]) rfl rfl (by decide +kernel) (by decide +kernel) rfl (by decide +kernel) rfl (by decide +kernel) (by decide +kernel) (by decide +kernel)) rfl (@pi_list _ _ _ _ (@pe_dget _ _ _ _ _ _ hr.u1 (pv 0) (@pe_str _ _ _ _) (fun _ _ => rfl))) (fun _ _ _ _ => (@pg_tupc _ _ _ _ _ _ _ _ _ _ _ (n:=3) _ rfl (@pgs_cons _ _ _ _ _ (@pg_name _ _ (i:=0) _ (show (["_law_a","_law_b","_law_time_here","_law_names","_law_here_here"]:List Str).Nodup by decide +kernel) rfl (Or.inl rfl) (Or.inr rfl)) (@pgs_cons _ _ _ _ _ (@pg_name _ _ (i:=1) _ (show (["_law_a","_law_b","_law_time_here","_law_names","_law_here_here"]:List Str).Nodup by decide +kernel) rfl (Or.inl rfl) (Or.inr rfl)) (@pgs_cons _ _ _ _ _ (@pg_name _ _ (i:=2) _ (show (["_law_a","_law_b","_law_time_here","_law_names","_law_here_here"]:List Str).Nodup by decide +kernel) rfl (Or.inl rfl) (Or.inr rfl)) (@pgs_nil _) (by rfl)) (by rfl)) (by rfl)) (by rfl) (by rfl))) (fun _ _ _ _ => (@pe_tup _ _ _ _ _ (@pa_cons _ _ _ _ _ (@pe_ix _ _ _ _ _ _ _ ix_LTc (pv 3) (pv 0) (fun _ _ => rfl)) (@pa_cons _ _ _ _ _ (@pe_ix _ _ _ _ _ _ _ ix_LTc (pv 3) (pv 1) (fun _ _ => rfl)) (@pa_cons _ _ _ _ _ (@pe_callO _ _ _ _ _ _ _ _ _ _ o_low hr rfl (@pa_cons _ _ _ _ _ (pv 2) (@pa_cons _ _ _ _ _ (@pe_dget _ _ _ _ _ _ hr.u1 (pv 4) (@pe_str _ _ _ _) (fun _ _ => rfl)) (@pa_nil _) (by rfl)) (by rfl)) (by decide) (by rfl) (by rfl)) (@pa_nil _) (by rfl)) (by rfl)) (by rfl)))) (fun _ _ _ _ => (@pts_none _)) (by intro _; rfl))))),?_⟩
    try dsimp only [cxK_nox,cxK_of]
    walk_at "go"
    refine r_dGs (.inl hQ.d) here_names ?_
    walk_at "go"
    refine r_dGs (.inl hQ.d) here_runs ?_
    obtain ⟨vr,hvr,pvr⟩:=id hQ.rq
    have hvl:vr.length = rs.length:=Paired.length pvr
    have hlen:=hI.len
    walk_at "go"
    refine r_listK (SqL.of hvr) ?_
    refine r_comp3 (xs:=vr) (by omega) (fun acc i ys G => Kp acc H G /\ ∃ n:List TRun,Paired (RunQ G) ys (kn n) /\ n.length = i /\ ∀ r ∈ n,r.1 ∈ U /\ r.2.1 ∈ U /\ UQ u r.2.2 /\ 0 < r.2.2) (fun acc h0 => ⟨Kp.new h0,[],.nil,rfl,(fun _ h => nomatch h)⟩) ?_ ?_ ?_
    . rintro acc i ys G h0 _ ⟨kp,_⟩
      exact SqL.of (kp _ _ (ne_of_none hvr h0) hvr)
    . rintro acc i ys G x h0 hx hyl hG ⟨kp,n,pn,hnl,hn⟩
      obtain ⟨r,hr,p,rfl,hp⟩:=Paired.at pvr hx
      obtain ⟨r0,r1,r2,r3,r4,r5⟩:=hI.rok r (List.mem_of_getElem? hr)
      have hpG:G p = some (.tup [.int r.1,.int r.2.1,.int r.2.2]):=kp _ _ (ne_of_none hp h0) hp
      have hnmG:=kp _ _ (ne_of_none hQ.nm h0) hQ.nm
      have hdG:=kp _ _ (ne_of_none hQ.d h0) hQ.d
      obtain ⟨s1,ms1,es1⟩:=pickS' (nm:=U) r0 r1
      obtain ⟨s2,ms2,es2⟩:=pickS' (nm:=U) r2 r3
      have u0:=hI.u0
      have u1:=hI.u1
      refine ⟨p,_,_,_,rfl,hpG,?_⟩
      walk_at "go"
      refine r_ixl hnmG es1 ?_
      walk_at "go"
      refine r_ixl hnmG es2 ?_
      walk_at "go"
      refine r_dGs (.inl hdG) here_unit ?_
      walk_at "go"
      refine ⟨r.2.2,u,rfl,u0,sm_u (by omega) (by omega),sm_u (by omega) (by omega),fun q1 hq1 => ?_⟩
      have f1:FrQ (L2.upd G q1 (.tup [.int (lowT r.2.2 u),.int (lowB r.2.2 u)])) (.ref q1) (Rat.divInt r.2.2 u):=FrQ.low (by omega) upd_same
      have t1:=Same.new (o:=.tup [.int (lowT r.2.2 u),.int (lowB r.2.2 u)]) hq1
      generalize L2.upd G q1 (.tup [.int (lowT r.2.2 u),.int (lowB r.2.2 u)]) = G1 at f1 t1 ⊢
      walk_at "go"
      refine r_tupK fun q2 hq2 => ?_
      have t2:=t1.trans (Same.new (o:=.tup [.str s1,.str s2,.ref q1]) hq2)
      have h2:=upd_same (H:=G1) (a:=q2) (o:=.tup [.str s1,.str s2,.ref q1])
      have f2:=f1.tk (Same.new (o:=.tup [.str s1,.str s2,.ref q1]) hq2).tk
      generalize L2.upd G1 q2 (.tup [.str s1,.str s2,.ref q1]) = G2 at t2 h2 f2 ⊢
      have tk:=TK.lst (o:=.lst (ys ++ [.ref q2])) (t2 _ _ hG)
      refine c_next (List.getElem?_eq_some_iff.mp hx).1 hyl (t2 _ _ hG) ⟨(kp.trans t2.kp).trans Kp.upd,n ++ [(s1,s2,Rat.divInt r.2.2 u)],?_,by rw [List.length_append,hnl]; rfl,fun x hx => ?_⟩
      . rw [show kn (n ++ [(s1,s2,Rat.divInt r.2.2 u)]) = kn n ++ [(Sum.inr s1,Sum.inr s2,Rat.divInt r.2.2 u)] by simp [kn]]
        exact Pd.snoc (Pd.imp pn fun v b f => (RunQ.tk f t2.tk).tk tk) ⟨q2,.ref q1,rfl,tk _ _ h2,f2.tk tk⟩
      . rcases List.mem_append.mp hx with h | h
        . exact hn x h
        . rw [List.mem_singleton.mp h]
          exact ⟨ms1,ms2,uq_of u0 (by omega) (by omega),low_pos (by omega) u0⟩
    rintro acc ys G h0 hG hyl ⟨kp,n,pn,hnl,hn⟩
    walk_at "go"
    exact q acc G n h0 (fun b o h => kp _ _ (ne_of_none h h0) h) ⟨ys,hG,pn⟩ (by omega) hn
set_option maxHeartbeats 0 in
theorem ok_pushes (T:Bl mg) (d:Df K mg "_law_pushes" s_pushes ["_law_here_here"]  ):Okf P w K mg base (k + 1) "_law_pushes" ["_law_here_here"] spPushes24:=by
  refine Okf.of d sc_pushes (fun vs H Q E h => ?_) (fun f cdv A outer s H vs Q E hr h => ?_)
  . obtain ⟨dd,U,u,rs,ps,ts,ln,lr,lp,lt,rfl,_⟩:=h
    rfl
  . obtain ⟨dd,U,u,rs,ps,ts,ln,lr,lp,lt,rfl,hI,hQ,q⟩:=h
    refine ⟨_,(@pss_cons _ _ _ _ _ (@ps_set _ _ (i:=1) _ _ _ _ sc_pushes.nd rfl (by first | exact Or.inl rfl | exact Or.inr rfl) (@pe_op _ _ _ _ _ _ _ _ op_addA (@pe_comp _ _ _ _ _ _ _ _ _ _ _ _ _ _ (@comp_ck _ _ (sc:=defScope s_pushes) (N:=["_law_here_here","_law_used"]) (tn:=["_law_a","_law_b","_law_time_here"]) (names:=[]) (is:=[]) rfl rfl (by decide +kernel) (by decide +kernel) rfl (by decide +kernel) rfl (by decide +kernel) (by decide +kernel) (by decide +kernel)) rfl (@pi_list _ _ _ _ (@pe_dget _ _ _ _ _ _ hr.u1 (pv 0) (@pe_str _ _ _ _) (fun _ _ => rfl))) (fun _ _ _ _ => (@pg_tupc _ _ _ _ _ _ _ _ _ _ _ (n:=3) _ rfl (@pgs_cons _ _ _ _ _ (@pg_name _ _ (i:=0) _ (show (["_law_a","_law_b","_law_time_here"]:List Str).Nodup by decide +kernel) rfl (Or.inl rfl) (Or.inr rfl)) (@pgs_cons _ _ _ _ _ (@pg_name _ _ (i:=1) _ (show (["_law_a","_law_b","_law_time_here"]:List Str).Nodup by decide +kernel) rfl (Or.inl rfl) (Or.inr rfl)) (@pgs_cons _ _ _ _ _ (@pg_name _ _ (i:=2) _ (show (["_law_a","_law_b","_law_time_here"]:List Str).Nodup by decide +kernel) rfl (Or.inl rfl) (Or.inr rfl)) (@pgs_nil _) (by rfl)) (by rfl)) (by rfl)) (by rfl) (by rfl))) (fun _ _ _ _ => (pv 0)) (fun _ _ _ _ => (@pts_none _)) (by intro _; rfl)) (@pe_comp _ _ _ _ _ _ _ _ _ _ _ _ _ _ (@comp_ck _ _ (sc:=defScope s_pushes) (N:=["_law_here_here","_law_used"]) (tn:=["_law_a","_law_b","_law_time_here"]) (names:=[]) (is:=[]) rfl rfl (by decide +kernel) (by decide +kernel) rfl (by decide +kernel) rfl (by decide +kernel) (by decide +kernel) (by decide +kernel)) rfl (@pi_list _ _ _ _ (@pe_dget _ _ _ _ _ _ hr.u1 (pv 0) (@pe_str _ _ _ _) (fun _ _ => rfl))) (fun _ _ _ _ => (@pg_tupc _ _ _ _ _ _ _ _ _ _ _ (n:=3) _ rfl (@pgs_cons _ _ _ _ _ (@pg_name _ _ (i:=0) _ (show (["_law_a","_law_b","_law_time_here"]:List Str).Nodup by decide +kernel) rfl (Or.inl rfl) (Or.inr rfl)) (@pgs_cons _ _ _ _ _ (@pg_name _ _ (i:=1) _ (show (["_law_a","_law_b","_law_time_here"]:List Str).Nodup by decide +kernel) rfl (Or.inl rfl) (Or.inr rfl)) (@pgs_cons _ _ _ _ _ (@pg_name _ _ (i:=2) _ (show (["_law_a","_law_b","_law_time_here"]:List Str).Nodup by decide +kernel) rfl (Or.inl rfl) (Or.inr rfl)) (@pgs_nil _) (by rfl)) (by rfl)) (by rfl)) (by rfl) (by rfl))) (fun _ _ _ _ => (pv 1)) (fun _ _ _ _ => (@pts_none _)) (by intro _; rfl))) (by rfl) (by first | exact .inl rfl | exact .inr rfl | assumption)) (@pss_one _ _ _ (@ps_ret _ _ _ _ (@pe_comp _ _ _ _ _ _ _ _ _ _ _ _ _ _ (@comp_ck _ _ (sc:=defScope s_pushes) (N:=["_law_here_here","_law_used"]) (tn:=["_law_a","_law_moment"]) (names:=["_law_used"]) (is:=[1]) rfl rfl (by decide +kernel) (by decide +kernel) rfl (by decide +kernel) rfl (by decide +kernel) (by decide +kernel) (by decide +kernel)) rfl (@pi_list _ _ _ _ (@pe_dget _ _ _ _ _ _ hr.u1 (pv 0) (@pe_str _ _ _ _) (fun _ _ => rfl))) (fun _ _ _ _ => (@pg_tupc _ _ _ _ _ _ _ _ _ _ _ (n:=2) _ rfl (@pgs_cons _ _ _ _ _ (@pg_name _ _ (i:=0) _ (show (["_law_a","_law_moment","_law_used"]:List Str).Nodup by decide +kernel) rfl (Or.inl rfl) (Or.inr rfl)) (@pgs_cons _ _ _ _ _ (@pg_name _ _ (i:=1) _ (show (["_law_a","_law_moment","_law_used"]:List Str).Nodup by decide +kernel) rfl (Or.inl rfl) (Or.inr rfl)) (@pgs_nil _) (by rfl)) (by rfl)) (by rfl) (by rfl))) (fun _ _ _ _ => (@pe_tup _ _ _ _ _ (@pa_cons _ _ _ _ _ (pv 0) (@pa_cons _ _ _ _ _ (pv 1) (@pa_nil _) (by rfl)) (by rfl)))) (fun _ _ _ _ => (@pts_one _ _ _ (@pt_cmpR _ _ _ _ _ _ _ _ op_in_seqc (pv 0) (pv 2) (by with_unfolding_all rfl)))) (by intro _; rfl))))),?_⟩
    try dsimp only [cxK_nox,cxK_of]
    obtain ⟨vr,hvr,pvr⟩:=id hQ.rq
    have hvl:vr.length = rs.length:=Paired.length pvr
    have hlen:=hI.len
    walk_at "go"
    refine r_dGs (.inl hQ.d) here_runs ?_
    walk_at "go"
    refine r_listK (SqL.of hvr) ?_
    refine r_comp3 (xs:=vr) (by omega) (fun acc i ys G => Kp acc H G /\ ∃ zs:List Int,ys = zs.map V.int) (fun acc h0 => ⟨Kp.new h0,[],rfl⟩) ?_ ?_ ?_
    . rintro acc i ys G h0 _ ⟨kp,_⟩
      exact SqL.of (kp _ _ (ne_of_none hvr h0) hvr)
    . rintro acc i ys G x h0 hx hyl hG ⟨kp,zs,rfl⟩
      obtain ⟨r,hr,p,rfl,hp⟩:=Paired.at pvr hx
      have hpG:G p = some (.tup [.int r.1,.int r.2.1,.int r.2.2]):=kp _ _ (ne_of_none hp h0) hp
      refine ⟨p,_,_,_,rfl,hpG,?_⟩
      walk_at "go"
      exact c_next (List.getElem?_eq_some_iff.mp hx).1 hyl hG ⟨kp.trans Kp.upd,zs ++ [r.1],by simp⟩
    rintro a1 ys1 G1 h1 hG1 hy1 ⟨kp1,z1,rfl⟩
    have s1:Same H G1:=fun b o h => kp1 _ _ (ne_of_none h h1) h
    have hQ1:=hQ.sm s1
    have hvr1:=s1 _ _ hvr
    have pvr1:=Pd.imp pvr fun v b f => f.tk s1.tk
    walk_at "go"
    refine r_dGs (.inl hQ1.d) here_runs ?_
    walk_at "go"
    refine r_listK (SqL.of hvr1) ?_
    refine r_comp3 (xs:=vr) (by omega) (fun acc i ys G => Kp acc G1 G /\ ∃ zs:List Int,ys = zs.map V.int) (fun acc h0 => ⟨Kp.new h0,[],rfl⟩) ?_ ?_ ?_
    . rintro acc i ys G h0 _ ⟨kp,_⟩
      exact SqL.of (kp _ _ (ne_of_none hvr1 h0) hvr1)
    . rintro acc i ys G x h0 hx hyl hG ⟨kp,zs,rfl⟩
      obtain ⟨r,hr,p,rfl,hp⟩:=Paired.at pvr1 hx
      have hpG:G p = some (.tup [.int r.1,.int r.2.1,.int r.2.2]):=kp _ _ (ne_of_none hp h0) hp
      refine ⟨p,_,_,_,rfl,hpG,?_⟩
      walk_at "go"
      exact c_next (List.getElem?_eq_some_iff.mp hx).1 hyl hG ⟨kp.trans Kp.upd,zs ++ [r.2.1],by simp⟩
    rintro a2 ys2 G2 h2 hG2 hy2 ⟨kp2,z2,rfl⟩
    have s2:Same G1 G2:=fun b o h => kp2 _ _ (ne_of_none h h2) h
    rw [List.length_map] at hy1 hy2
    walk_at "go"
    refine a_lst (s2 _ _ hG1) hG2 (by rw [List.length_map,List.length_map]; omega) fun a3 h3 => ?_
    rw [← List.map_append]
    have s3:=(s1.trans s2).trans (Same.new (o:=.lst ((z1 ++ z2).map V.int)) h3)
    have hG3:=upd_same (H:=G2) (a:=a3) (o:=.lst ((z1 ++ z2).map V.int))
    generalize L2.upd G2 a3 (.lst ((z1 ++ z2).map V.int)) = G3 at s3 hG3 ⊢
    generalize z1 ++ z2 = zs at *
    have hQ3:=hQ.sm s3
    obtain ⟨vp,hvp,pvp⟩:=id hQ3.pq
    have hpl:vp.length = ps.length:=Paired.length pvp
    walk_at "go"
    refine r_dGs (.inl hQ3.d) here_pushes ?_
    walk_at "go"
    refine r_listK (SqL.of hvp) ?_
    refine r_compPT (xs:=vp) (by omega) (fun acc i ys G => Kp acc G3 G /\ ∃ ps':List (Int×Int),Paired (PaiQ G) ys ps' /\ ps'.length <= i /\ ∀ x ∈ ps',x ∈ ps) (fun acc h0 => ⟨Kp.new h0,[],.nil,Nat.le_refl _,(fun _ h => nomatch h)⟩) ?_ ?_ ?_
    . rintro acc i ys G h0 _ ⟨kp,_⟩
      exact SqL.of (kp _ _ (ne_of_none hvp h0) hvp)
    . rintro acc i ys G x h0 hx hyl hG ⟨kp,ps',pn,hnl,hn⟩
      obtain ⟨r,hr,p,rfl,hp⟩:=Paired.at pvp hx
      have hi:=(List.getElem?_eq_some_iff.mp hx).1
      have hpG:G p = some (.tup [.int r.1,.int r.2]):=kp _ _ (ne_of_none hp h0) hp
      have hzG:=kp _ _ (ne_of_none hG3 h0) hG3
      refine ⟨p,_,_,rfl,hpG,?_⟩
      walk_at "go"
      refine r_inI hzG ?_
      walk_at "go"
      refine i_d (fun c => ?_) (fun c => ?_)
      . walk_at "go"
        refine r_tupK fun q2 hq2 => ?_
        have t2:=Same.new (o:=.tup [.int r.1,.int r.2]) hq2
        have h2:=upd_same (H:=G) (a:=q2) (o:=.tup [.int r.1,.int r.2])
        generalize L2.upd G q2 (.tup [.int r.1,.int r.2]) = G4 at t2 h2 ⊢
        have tk:=TK.lst (o:=.lst (ys ++ [.ref q2])) (t2 _ _ hG)
        refine f_next hi hyl (t2 _ _ hG) ⟨(kp.trans t2.kp).trans Kp.upd,ps' ++ [r],Pd.snoc (Pd.imp pn fun v b f => (f.tk t2.tk).tk tk) ⟨q2,rfl,tk _ _ h2⟩,by rw [List.length_append]; show _ + 1 <= _; omega,fun x hx => ?_⟩
        rcases List.mem_append.mp hx with h | h
        . exact hn x h
        . rw [List.mem_singleton.mp h]
          exact List.mem_of_getElem? hr
      . walk_at "go"
        exact f_skip hi hyl hG ⟨kp,ps',pn,by omega,hn⟩
    rintro acc ys G h0 hG hyl ⟨kp,ps',pn,hnl,hn⟩
    walk_at "go"
    exact q acc G ps' (s3.trans fun b o h => kp _ _ (ne_of_none h h0) h) ⟨ys,hG,pn⟩ (by omega) hn
set_option maxHeartbeats 0 in
theorem ok_handed (T:Bl mg) (d:Df K mg "_law_handed" s_handed ["_law_here_here"]  ) (o_low:Okf P w K mg base k "_law_low" ["_law_top","_law_bottom"] spLowest) (o_pushes:Okf P w K mg base k "_law_pushes" ["_law_here_here"] spPushes24):Okf P w K mg base (k + 1) "_law_handed" ["_law_here_here"] spHanded24:=by
  refine Okf.of d sc_handed (fun vs H Q E h => ?_) (fun f cdv A outer s H vs Q E hr h => ?_)
  . obtain ⟨dd,U,u,rs,ps,ts,ln,lr,lp,lt,rfl,_⟩:=h
    rfl
  . obtain ⟨dd,U,u,rs,ps,ts,ln,lr,lp,lt,rfl,hI,hQ,q⟩:=h
    refine ⟨_,(@pss_cons _ _ _ _ _ (@ps_set _ _ (i:=1) _ _ _ _ sc_handed.nd rfl (by first | exact Or.inl rfl | exact Or.inr rfl) (@pe_dget _ _ _ _ _ _ hr.u1 (pv 0) (@pe_str _ _ _ _) (fun _ _ => rfl)) (by rfl) (by first | exact .inl rfl | exact .inr rfl | assumption)) (@pss_cons _ _ _ _ _ (@ps_set _ _ (i:=2) _ _ _ _ sc_handed.nd rfl (by first | exact Or.inl rfl | exact Or.inr rfl) (@pe_dget _ _ _ _ _ _ hr.u1 (pv 0) (@pe_str _ _ _ _) (fun _ _ => rfl)) (by rfl) (by first | exact .inl rfl | exact .inr rfl | assumption)) (@pss_cons _ _ _ _ _ (@ps_setC _ _ _ _ _ _ _ _ _ _ _ _ _ _ (i:=3) _ _ _ sc_handed.nd rfl (by first | exact Or.inl rfl | exact Or.inr rfl) (@comp_ck _ _ (sc:=defScope s_handed) (N:=["_law_here_here","_law_names","_law_unit","_law_pushes_here"]) (tn:=["_law_a","_law_moment"]) (names:=["_law_unit","_law_names"]) (is:=[2,1]) rfl rfl (by decide +kernel) (by decide +kernel) rfl (by decide +kernel) rfl (by decide +kernel) (by decide +kernel) (by decide +kernel)) rfl (@pi_list _ _ _ _ (@pe_callO _ _ _ _ _ _ _ _ _ _ o_pushes hr rfl (@pa_cons _ _ _ _ _ (pv 0) (@pa_nil _) (by rfl)) (by decide) (by rfl) (by rfl))) (fun _ _ _ _ => (@pg_tupc _ _ _ _ _ _ _ _ _ _ _ (n:=2) _ rfl (@pgs_cons _ _ _ _ _ (@pg_name _ _ (i:=0) _ (show (["_law_a","_law_moment","_law_unit","_law_names"]:List Str).Nodup by decide +kernel) rfl (Or.inl rfl) (Or.inr rfl)) (@pgs_cons _ _ _ _ _ (@pg_name _ _ (i:=1) _ (show (["_law_a","_law_moment","_law_unit","_law_names"]:List Str).Nodup by decide +kernel) rfl (Or.inl rfl) (Or.inr rfl)) (@pgs_nil _) (by rfl)) (by rfl)) (by rfl) (by rfl))) (fun _ _ _ _ => (@pe_tup _ _ _ _ _ (@pa_cons _ _ _ _ _ (@pe_ix _ _ _ _ _ _ _ ix_LTc (pv 3) (pv 0) (fun _ _ => rfl)) (@pa_cons _ _ _ _ _ (@pe_callO _ _ _ _ _ _ _ _ _ _ o_low hr rfl (@pa_cons _ _ _ _ _ (pv 1) (@pa_cons _ _ _ _ _ (pv 2) (@pa_nil _) (by rfl)) (by rfl)) (by decide) (by rfl) (by rfl)) (@pa_nil _) (by rfl)) (by rfl)))) (fun _ _ _ _ => (@pts_none _)) (by intro _; rfl) (by rfl) (by first | exact .inl rfl | exact .inr rfl | assumption)) (@pss_one _ _ _ (@ps_ret _ _ _ _ (@pe_tup _ _ _ _ _ (@pa_cons _ _ _ _ _ (pv 3) (@pa_cons _ _ _ _ _ (@pe_comp _ _ _ _ _ _ _ _ _ _ _ _ _ _ (@comp_ck _ _ (sc:=defScope s_handed) (N:=["_law_here_here","_law_names","_law_unit","_law_pushes_here"]) (tn:=["_law_number_here","_law_moment"]) (names:=["_law_unit"]) (is:=[2]) rfl rfl (by decide +kernel) (by decide +kernel) rfl (by decide +kernel) rfl (by decide +kernel) (by decide +kernel) (by decide +kernel)) rfl (@pi_list _ _ _ _ (@pe_dget _ _ _ _ _ _ hr.u1 (pv 0) (@pe_str _ _ _ _) (fun _ _ => rfl))) (fun _ _ _ _ => (@pg_tupc _ _ _ _ _ _ _ _ _ _ _ (n:=2) _ rfl (@pgs_cons _ _ _ _ _ (@pg_name _ _ (i:=0) _ (show (["_law_number_here","_law_moment","_law_unit"]:List Str).Nodup by decide +kernel) rfl (Or.inl rfl) (Or.inr rfl)) (@pgs_cons _ _ _ _ _ (@pg_name _ _ (i:=1) _ (show (["_law_number_here","_law_moment","_law_unit"]:List Str).Nodup by decide +kernel) rfl (Or.inl rfl) (Or.inr rfl)) (@pgs_nil _) (by rfl)) (by rfl)) (by rfl) (by rfl))) (fun _ _ _ _ => (@pe_tup _ _ _ _ _ (@pa_cons _ _ _ _ _ (pv 0) (@pa_cons _ _ _ _ _ (@pe_callO _ _ _ _ _ _ _ _ _ _ o_low hr rfl (@pa_cons _ _ _ _ _ (pv 1) (@pa_cons _ _ _ _ _ (pv 2) (@pa_nil _) (by rfl)) (by rfl)) (by decide) (by rfl) (by rfl)) (@pa_nil _) (by rfl)) (by rfl)))) (fun _ _ _ _ => (@pts_none _)) (by intro _; rfl)) (@pa_nil _) (by rfl)) (by rfl)))))))),?_⟩
    try dsimp only [cxK_nox,cxK_of]
    have u0:=hI.u0
    have u1:=hI.u1
    have hlen:=hI.len
    walk_at "go"
    refine r_dGs (.inl hQ.d) here_names ?_
    walk_at "go"
    refine r_dGs (.inl hQ.d) here_unit ?_
    walk_at "go"
    refine ⟨dd,U,u,rs,ps,ts,ln,lr,lp,lt,rfl,hI,hQ,fun lq H1 ps' s1 lq1 hpl hps => ?_⟩
    have hQ1:=hQ.sm s1
    obtain ⟨vp,hvp,pvp⟩:=id lq1
    have hvl:vp.length = ps'.length:=Paired.length pvp
    walk_at "go"
    refine r_listK (SqL.of hvp) ?_
    refine r_compP (xs:=vp) (by omega) (fun acc i ys G => Kp acc H1 G /\ ∃ qs:List (Key×Rat),Paired (KvQ G) ys qs /\ qs.length = i /\ ∀ x ∈ qs,UQ u x.2) (fun acc h0 => ⟨Kp.new h0,[],.nil,rfl,(fun _ h => nomatch h)⟩) ?_ ?_ ?_
    . rintro acc i ys G h0 _ ⟨kp,_⟩
      exact SqL.of (kp _ _ (ne_of_none hvp h0) hvp)
    . rintro acc i ys G x h0 hx hyl hG ⟨kp,qs,pn,hnl,hn⟩
      obtain ⟨r,hr,p,rfl,hp⟩:=Paired.at pvp hx
      obtain ⟨r0,r1,r2,r3⟩:=hI.pok r (hps r (List.mem_of_getElem? hr))
      have hpG:G p = some (.tup [.int r.1,.int r.2]):=kp _ _ (ne_of_none hp h0) hp
      have hnmG:=kp _ _ (ne_of_none hQ1.nm h0) hQ1.nm
      obtain ⟨s0,_,es0⟩:=pickS' (nm:=U) r0 r1
      refine ⟨p,_,_,rfl,hpG,?_⟩
      walk_at "go"
      refine r_ixl hnmG es0 ?_
      walk_at "go"
      refine ⟨r.2,u,rfl,u0,sm_u (by omega) (by omega),sm_u (by omega) (by omega),fun q1 hq1 => ?_⟩
      have f1:FrQ (L2.upd G q1 (.tup [.int (lowT r.2 u),.int (lowB r.2 u)])) (.ref q1) (Rat.divInt r.2 u):=FrQ.low (by omega) upd_same
      have t1:=Same.new (o:=.tup [.int (lowT r.2 u),.int (lowB r.2 u)]) hq1
      generalize L2.upd G q1 (.tup [.int (lowT r.2 u),.int (lowB r.2 u)]) = G4 at f1 t1 ⊢
      walk_at "go"
      refine r_tupK fun q2 hq2 => ?_
      have t2:=t1.trans (Same.new (o:=.tup [.str s0,.ref q1]) hq2)
      have h2:=upd_same (H:=G4) (a:=q2) (o:=.tup [.str s0,.ref q1])
      have f2:=f1.tk (Same.new (o:=.tup [.str s0,.ref q1]) hq2).tk
      generalize L2.upd G4 q2 (.tup [.str s0,.ref q1]) = G5 at t2 h2 f2 ⊢
      have tk:=TK.lst (o:=.lst (ys ++ [.ref q2])) (t2 _ _ hG)
      refine c_next (List.getElem?_eq_some_iff.mp hx).1 hyl (t2 _ _ hG) ⟨(kp.trans t2.kp).trans Kp.upd,qs ++ [(Sum.inr s0,Rat.divInt r.2 u)],Pd.snoc (Pd.imp pn fun v b f => (f.tk t2.tk).tk tk) ⟨q2,.ref q1,rfl,tk _ _ h2,f2.tk tk⟩,by rw [List.length_append,hnl]; rfl,fun x hx => ?_⟩
      rcases List.mem_append.mp hx with h | h
      . exact hn x h
      . rw [List.mem_singleton.mp h]
        exact uq_of u0 (by omega) (by omega)
    rintro l1 ys1 G1 h1 hG1 hy1 ⟨kp1,qs,pn1,hnl1,hn1⟩
    have s2:Same H1 G1:=fun b o h => kp1 _ _ (ne_of_none h h1) h
    have s12:=s1.trans s2
    have hQ2:=hQ.sm s12
    obtain ⟨vt,hvt,pvt⟩:=id hQ2.tq
    have hvtl:vt.length = ts.length:=Paired.length pvt
    walk_at "go"
    refine r_dGs (.inl hQ2.d) here_takings ?_
    walk_at "go"
    refine r_listK (SqL.of hvt) ?_
    refine r_compP (xs:=vt) (by omega) (fun acc i ys G => Kp acc G1 G /\ ∃ qs:List (Key×Rat),Paired (KvQ G) ys qs /\ qs.length = i /\ ∀ x ∈ qs,UQ u x.2) (fun acc h0 => ⟨Kp.new h0,[],.nil,rfl,(fun _ h => nomatch h)⟩) ?_ ?_ ?_
    . rintro acc i ys G h0 _ ⟨kp,_⟩
      exact SqL.of (kp _ _ (ne_of_none hvt h0) hvt)
    . rintro acc i ys G x h0 hx hyl hG ⟨kp,qs,pn,hnl,hn⟩
      obtain ⟨r,hr,p,rfl,hp⟩:=Paired.at pvt hx
      obtain ⟨r1,r2,r3⟩:=hI.tok r (List.mem_of_getElem? hr)
      have hpG:G p = some (.tup [.int r.1,.int r.2]):=kp _ _ (ne_of_none hp h0) hp
      refine ⟨p,_,_,rfl,hpG,?_⟩
      walk_at "go"
      refine ⟨r.2,u,rfl,u0,sm_u (by omega) (by omega),sm_u (by omega) (by omega),fun q1 hq1 => ?_⟩
      have f1:FrQ (L2.upd G q1 (.tup [.int (lowT r.2 u),.int (lowB r.2 u)])) (.ref q1) (Rat.divInt r.2 u):=FrQ.low (by omega) upd_same
      have t1:=Same.new (o:=.tup [.int (lowT r.2 u),.int (lowB r.2 u)]) hq1
      generalize L2.upd G q1 (.tup [.int (lowT r.2 u),.int (lowB r.2 u)]) = G4 at f1 t1 ⊢
      walk_at "go"
      refine r_tupK fun q2 hq2 => ?_
      have t2:=t1.trans (Same.new (o:=.tup [.int r.1,.ref q1]) hq2)
      have h2:=upd_same (H:=G4) (a:=q2) (o:=.tup [.int r.1,.ref q1])
      have f2:=f1.tk (Same.new (o:=.tup [.int r.1,.ref q1]) hq2).tk
      generalize L2.upd G4 q2 (.tup [.int r.1,.ref q1]) = G5 at t2 h2 f2 ⊢
      have tk:=TK.lst (o:=.lst (ys ++ [.ref q2])) (t2 _ _ hG)
      refine c_next (List.getElem?_eq_some_iff.mp hx).1 hyl (t2 _ _ hG) ⟨(kp.trans t2.kp).trans Kp.upd,qs ++ [(Sum.inl r.1,Rat.divInt r.2 u)],Pd.snoc (Pd.imp pn fun v b f => (f.tk t2.tk).tk tk) ⟨q2,.ref q1,rfl,tk _ _ h2,f2.tk tk⟩,by rw [List.length_append,hnl]; rfl,fun x hx => ?_⟩
      rcases List.mem_append.mp hx with h | h
      . exact hn x h
      . rw [List.mem_singleton.mp h]
        exact uq_of u0 (by omega) (by omega)
    rintro l2 ys2 G2 h2 hG2 hy2 ⟨kp2,zs,pn2,hnl2,hn2⟩
    have s3:Same G1 G2:=fun b o h => kp2 _ _ (ne_of_none h h2) h
    walk_at "go"
    refine r_tupK fun p hp => ?_
    have s4:=Same.new (o:=.tup [.ref l1,.ref l2]) hp
    have s34:=s3.trans s4
    walk_at "go"
    exact q p _ l1 l2 qs zs (s12.trans s34) upd_same ⟨ys1,s34 _ _ hG1,Pd.imp pn1 fun v b f => f.tk s34.tk⟩ ⟨ys2,s4 _ _ hG2,Pd.imp pn2 fun v b f => f.tk s4.tk⟩ (by omega) (by omega) hn1 hn2
theorem ok_less (T:Bl mg) (d:Df K mg "_law_less" s_less ["_law_one","_law_other"]  ):Okf P w K mg base (k + 1) "_law_less" ["_law_one","_law_other"] spLessQ2:=by
  refine Okf.of d sc_less (fun vs H Q E h => ?_) (fun f cdv A outer s H vs Q E hr h => ?_)
  . obtain ⟨x,y,q1,q2,rfl,_⟩:=h
    rfl
  . obtain ⟨x,y,q1,q2,rfl,⟨p1,rfl,h1⟩,⟨p2,rfl,h2⟩,z1,z2,q⟩:=h
    refine ⟨_,(@pss_one _ _ _ (@ps_ret _ _ _ _ (@pe_cmpR _ _ _ _ _ _ _ _ op_lt (@pe_op _ _ _ _ _ _ _ _ op_mulB (@pe_ix _ _ _ _ _ _ _ ix_LT (pv 0) (@pe_int _ _ _ _) (fun _ _ => rfl)) (@pe_ix _ _ _ _ _ _ _ ix_LT (pv 1) (@pe_int _ _ _ _) (fun _ _ => rfl))) (@pe_op _ _ _ _ _ _ _ _ op_mulB (@pe_ix _ _ _ _ _ _ _ ix_LT (pv 1) (@pe_int _ _ _ _) (fun _ _ => rfl)) (@pe_ix _ _ _ _ _ _ _ ix_LT (pv 0) (@pe_int _ _ _ _) (fun _ _ => rfl))) (nomark _)))),?_⟩
    try dsimp only [cxK_nox,cxK_of]
    have M:∀ {i j:Int},i.natAbs < 2 ^ 8000 -> j.natAbs < 2 ^ 8000 -> CMulB i j:=fun h1 h2 => CMulB.s (m:=8000) (n:=8000) h1 h2 (by decide) (by decide)
    walk_at "go"
    refine r_mul (M z1.1 z2.2) ?_
    walk_at "go"
    refine r_mul (M z2.1 z1.2) ?_
    walk_at "go"
    rw [less_iff]
    exact q
set_option maxHeartbeats 0 in
theorem ok_end_at (T:Bl mg) (d:Df K mg "_law_end_at" s_end_at ["_law_told"]  ):Okf P w K mg base (k + 1) "_law_end_at" ["_law_told"] spEndAt:=by
  refine Okf.of d sc_end_at (fun vs H Q E h => ?_) (fun f cdv A outer s H vs Q E hr h => ?_)
  . obtain ⟨v,e,rfl,_⟩:=h
    rfl
  . obtain ⟨v,e,rfl,ev,q⟩:=h
    refine ⟨_,(@pss_one _ _ _ (@ps_ret _ _ _ _ (@pe_dget _ _ _ _ _ _ hr.u1 (@pe_disp _ _ _ _ _ (@pps_cons _ _ _ _ _ _ _ _ _ (@pe_str _ _ _ _) (@pe_int _ _ _ _) (@pps_cons _ _ _ _ _ _ _ _ _ (@pe_str _ _ _ _) (@pe_int _ _ _ _) (@pps_cons _ _ _ _ _ _ _ _ _ (@pe_str _ _ _ _) (@pe_int _ _ _ _) (@pps_cons _ _ _ _ _ _ _ _ _ (@pe_str _ _ _ _) (@pe_int _ _ _ _) (@pps_nil _ _))))) rfl rfl (List.cons_ne_nil _ _) (Nat.le_of_ble_eq_true rfl)) (@pe_ix _ _ _ _ _ _ _ ix_LT (pv 0) (@pe_int _ _ _ _) (fun _ _ => rfl)) (fun _ _ => rfl)))),?_⟩
    try dsimp only [cxK_nox,cxK_of]
    obtain ⟨p,xs,rfl,hp⟩:=end_nm ev
    walk_at "go"
    refine r_disp4 fun d hd => ?_
    walk_at "go"
    refine dsp4_end upd_same ?_
    have s1:Same H (L2.upd (L2.upd H d (.dK [])) d (.dK endK)):=Kp.upd.sm (Same.new hd) hd
    have hd1:=upd_same (H:=L2.upd H d (.dK [])) (a:=d) (o:=.dK endK)
    generalize L2.upd (L2.upd H d (.dK [])) d (.dK endK) = H1 at s1 hd1 ⊢
    have hp1:=s1 _ _ hp
    walk_at "go"
    refine r_ixt hp1 (at0 _ _) ?_
    refine r_dGs (.inl hd1) (end_ix e) ?_
    walk_at "go"
    exact q _ s1
set_option maxHeartbeats 0 in
theorem ok_within (T:Bl mg) (d:Df K mg "_law_within" s_within ["_law_inner","_law_outer"]  ) (o_less:Okf P w K mg base k "_law_less" ["_law_one","_law_other"] spLessQ2):Okf P w K mg base (k + 1) "_law_within" ["_law_inner","_law_outer"] spWithin:=by
  refine Okf.of d sc_within (fun vs H Q E h => ?_) (fun f cdv A outer s H vs Q E hr h => ?_)
  . obtain ⟨v,w',i,o,rfl,_⟩:=h
    rfl
  . obtain ⟨v,w',i,o,rfl,lv,lw,zi,zo,hio,q⟩:=h
    refine ⟨_,(@pss_cons _ _ _ _ _ (@ps_if _ _ _ _ _ _ _ _ (@pt_cmpR _ _ _ _ _ _ _ _ op_isN2 (pv 0) (@pe_non _ _ _) (nomark _)) (@pss_one _ _ _ (@ps_ret _ _ _ _ (@pe_bl _ _ _ _))) (@pss_nil _)) (@pss_cons _ _ _ _ _ (@ps_if _ _ _ _ _ _ _ _ (@PW.pt _ _ _ (@pw_or _ _ _ _ _ _ _ (@pt_cmpR _ _ _ _ _ _ _ _ op_isN2 (pv 1) (@pe_non _ _ _) (nomark _)) (@pw_or _ _ _ _ _ _ _ (@pt_val _ _ _ (@pe_callO _ _ _ _ _ _ _ _ _ _ o_less hr rfl (@pa_cons _ _ _ _ _ (@pe_ix _ _ _ _ _ _ _ ix_LT (pv 0) (@pe_int _ _ _ _) (fun _ _ => rfl)) (@pa_cons _ _ _ _ _ (@pe_ix _ _ _ _ _ _ _ ix_LT (pv 1) (@pe_int _ _ _ _) (fun _ _ => rfl)) (@pa_nil _) (by rfl)) (by rfl)) (by decide) (by rfl) (by rfl)) (by intro _; rfl)) (@pw_or1 _ _ _ _ (@pt_val _ _ _ (@pe_callO _ _ _ _ _ _ _ _ _ _ o_less hr rfl (@pa_cons _ _ _ _ _ (@pe_ix _ _ _ _ _ _ _ ix_LT (pv 1) (@pe_int _ _ _ _) (fun _ _ => rfl)) (@pa_cons _ _ _ _ _ (@pe_ix _ _ _ _ _ _ _ ix_LT (pv 0) (@pe_int _ _ _ _) (fun _ _ => rfl)) (@pa_nil _) (by rfl)) (by rfl)) (by decide) (by rfl) (by rfl)) (by intro _; rfl)))))) (@pss_one _ _ _ (@ps_ret _ _ _ _ (@pe_bl _ _ _ _))) (@pss_nil _)) (@pss_one _ _ _ (@ps_ret _ _ _ _ (@pe_callO _ _ _ _ _ _ _ _ _ _ o_less hr rfl (@pa_cons _ _ _ _ _ (@pe_ix _ _ _ _ _ _ _ ix_LT (pv 0) (@pe_int _ _ _ _) (fun _ _ => rfl)) (@pa_cons _ _ _ _ _ (@pe_ix _ _ _ _ _ _ _ ix_LT (pv 0) (@pe_int _ _ _ _) (fun _ _ => rfl)) (@pa_nil _) (by rfl)) (by rfl)) (by decide) (by rfl) (by rfl)))))),?_⟩
    try dsimp only [cxK_nox,cxK_of]
    cases i with
    | none =>
      cases (show v = .non from lv)
      walk_at "go"
      exact q
    | some x =>
      obtain ⟨hx,y,rfl,h1,h2⟩:=hio x rfl
      obtain ⟨p,a,b,rfl,hp,fa,fb⟩:=lv
      obtain ⟨p',c,d',rfl,hp',fc,fd⟩:=lw
      obtain ⟨za,zb⟩:=zi x rfl
      obtain ⟨zc,zd⟩:=zo y rfl
      walk_at "go"
      refine ⟨a,c,x.1,y.1,rfl,fa,fc,za.mono (by decide),zc.mono (by decide),?_⟩
      rw [decide_eq_false (Rat.not_lt.mpr h1)]
      walk_at "go"
      refine ⟨d',b,y.2,x.2,rfl,fd,fb,zd.mono (by decide),zb.mono (by decide),?_⟩
      rw [decide_eq_false (Rat.not_lt.mpr h2)]
      walk_at "go"
      refine ⟨a,b,x.1,x.2,rfl,fa,fb,za.mono (by decide),zb.mono (by decide),?_⟩
      rw [decide_eq_true hx]
      walk_at "go"
      exact q
set_option maxHeartbeats 0 in
theorem ok_swept (T:Bl mg) (d:Df K mg "_law_swept" s_swept ["_law_net_here","_law_fallen","_law_k","_law_told"]  ):Okf P w K mg base (k + 1) "_law_swept" ["_law_net_here","_law_fallen","_law_k","_law_told"] spSwept23:=by
  refine Okf.of d sc_swept (fun vs H Q E h => ?_) (fun f cdv A outer s H vs Q E hr h => ?_)
  . obtain ⟨l,n,d',kd,kk,v,p,t,r,f,sq,vp,vq,rfl,_⟩:=h
    rfl
  . obtain ⟨l,n,d',kd,kk,v,p,t,r,f,sq,vp,vq,rfl,hn,hd,ev,hnk,ep,fp,eq,fq,rfl,hor,zf,zT,q⟩:=h
    refine ⟨_,(@pss_cons _ _ _ _ _ (@ps_asg _ _ _ _ _ _ (@pe_ix _ _ _ _ _ _ _ ix_LT (pv 0) (pv 2) (fun _ _ => rfl)) (@pg_tup _ _ _ _ _ (n:=3) rfl (@pgs_cons _ _ _ _ _ (@pg_name _ _ (i:=4) _ sc_swept.nd rfl (by first | exact Or.inl rfl | exact Or.inr rfl) (by first | exact .inl rfl | exact .inr rfl | assumption)) (@pgs_cons _ _ _ _ _ (@pg_name _ _ (i:=5) _ sc_swept.nd rfl (by first | exact Or.inl rfl | exact Or.inr rfl) (by first | exact .inl rfl | exact .inr rfl | assumption)) (@pgs_cons _ _ _ _ _ (@pg_name _ _ (i:=6) _ sc_swept.nd rfl (by first | exact Or.inl rfl | exact Or.inr rfl) (by first | exact .inl rfl | exact .inr rfl | assumption)) (@pgs_nil _) (by rfl)) (by rfl)) (by rfl)) (by rfl) (by rfl)) (by rfl) (by rfl) (by rfl)) (@pss_cons _ _ _ _ _ (@ps_if _ _ _ _ _ _ _ _ (@pt_cmpR _ _ _ _ _ _ _ _ (op_eqA hr.units) (@pe_ix _ _ _ _ _ _ _ ix_LT (pv 3) (@pe_int _ _ _ _) (fun _ _ => rfl)) (pv 5) (nomark _)) (@pss_one _ _ _ (@ps_set _ _ (i:=5) _ _ _ _ sc_swept.nd rfl (by first | exact Or.inl rfl | exact Or.inr rfl) (pv 4) (by rfl) (by first | exact .inl rfl | exact .inr rfl | assumption))) (@pss_nil _)) (@pss_cons _ _ _ _ _ (@ps_set _ _ (i:=7) _ _ _ _ sc_swept.nd rfl (by first | exact Or.inl rfl | exact Or.inr rfl) (@pe_dget _ _ _ _ _ _ hr.u1 (pv 1) (@pe_ix _ _ _ _ _ _ _ ix_LT (pv 3) (@pe_int _ _ _ _) (fun _ _ => rfl)) (fun _ _ => rfl)) (by rfl) (by first | exact .inl rfl | exact .inr rfl | assumption)) (@pss_cons _ _ _ _ _ (@ps_set _ _ (i:=8) _ _ _ _ sc_swept.nd rfl (by first | exact Or.inl rfl | exact Or.inr rfl) (@pe_tup _ _ _ _ _ (@pa_cons _ _ _ _ _ (@pe_op _ _ _ _ _ _ _ _ op_addA (@pe_op _ _ _ _ _ _ _ _ op_mulB (@pe_ix _ _ _ _ _ _ _ ix_LT (pv 7) (@pe_int _ _ _ _) (fun _ _ => rfl)) (@pe_ix _ _ _ _ _ _ _ ix_LT (pv 6) (@pe_int _ _ _ _) (fun _ _ => rfl))) (@pe_op _ _ _ _ _ _ _ _ op_mulB (@pe_ix _ _ _ _ _ _ _ ix_LT (pv 6) (@pe_int _ _ _ _) (fun _ _ => rfl)) (@pe_ix _ _ _ _ _ _ _ ix_LT (pv 7) (@pe_int _ _ _ _) (fun _ _ => rfl)))) (@pa_cons _ _ _ _ _ (@pe_op _ _ _ _ _ _ _ _ op_mulB (@pe_ix _ _ _ _ _ _ _ ix_LT (pv 7) (@pe_int _ _ _ _) (fun _ _ => rfl)) (@pe_ix _ _ _ _ _ _ _ ix_LT (pv 6) (@pe_int _ _ _ _) (fun _ _ => rfl))) (@pa_nil _) (by rfl)) (by rfl))) (by rfl) (by first | exact .inl rfl | exact .inr rfl | assumption)) (@pss_cons _ _ _ _ _ (@ps_if _ _ _ _ _ _ _ _ (@pt_cmpR _ _ _ _ _ _ _ _ (op_neA hr.units) (@pe_op _ _ _ _ _ _ _ _ op_mulB (@pe_ix _ _ _ _ _ _ _ ix_LT (@pe_ix _ _ _ _ _ _ _ ix_LT (pv 3) (@pe_int _ _ _ _) (fun _ _ => rfl)) (@pe_int _ _ _ _) (fun _ _ => rfl)) (@pe_ix _ _ _ _ _ _ _ ix_LT (pv 8) (@pe_int _ _ _ _) (fun _ _ => rfl))) (@pe_op _ _ _ _ _ _ _ _ op_mulB (@pe_ix _ _ _ _ _ _ _ ix_LT (pv 8) (@pe_int _ _ _ _) (fun _ _ => rfl)) (@pe_ix _ _ _ _ _ _ _ ix_LT (@pe_ix _ _ _ _ _ _ _ ix_LT (pv 3) (@pe_int _ _ _ _) (fun _ _ => rfl)) (@pe_int _ _ _ _) (fun _ _ => rfl))) (nomark _)) (@pss_one _ _ _ (@ps_ret _ _ _ _ (@pe_bl _ _ _ _))) (@pss_nil _)) (@pss_one _ _ _ (@ps_ret _ _ _ _ (@pe_cmpR _ _ _ _ _ _ _ _ (op_eqA hr.units) (@pe_dget _ _ _ _ _ _ hr.u1 (pv 1) (pv 5) (fun _ _ => rfl)) (@pe_ix _ _ _ _ _ _ _ ix_LT (pv 3) (@pe_int _ _ _ _) (fun _ _ => rfl)) (nomark _))))))))),?_⟩
    try dsimp only [cxK_nox,cxK_of]
    have M:∀ {i j:Int},i.natAbs < 2 ^ 400 -> j.natAbs < 2 ^ 400 -> CMulB i j:=fun h1 h2 => CMulB.s (m:=400) (n:=400) h1 h2 (by decide) (by decide)
    have M':∀ {i j:Int},Sm 3000 i -> Sm 3000 j -> CMulB i j:=fun h1 h2 => CMulB.s h1 h2 (by decide) (by decide)
    have zt:Sz 3000 (f + r.2.2):=(Sz.add zf zT).mono (by decide)
    obtain ⟨vn,hvn,pvn⟩:=id hn
    have hkr:(kn n)[kk]? = some (Sum.inr r.1,Sum.inr r.2.1,r.2.2):=by
      unfold kn
      rw [List.getElem?_map,hnk]
      rfl
    obtain ⟨vr,hvr,pr,u,rfl,hpr,pt,rfl,hpt⟩:=pd_atT pvn hkr
    replace hpr:H pr = some (.tup [.str r.1,.str r.2.1,.ref pt]):=hpr
    replace hpt:H pt = some (.tup [.int r.2.2.num,.int r.2.2.den]):=hpt
    obtain ⟨pv,ut,rfl,hv,pu,rfl,ht⟩:=ev
    obtain ⟨pf,rfl,hf⟩:=fp
    obtain ⟨pq,rfl,hq⟩:=fq
    walk_at "go"
    refine r_ixl hvn (atI_nat hvr) ?_
    walk_at "go"
    rcases hor with ⟨rfl,rfl,hne⟩ | ⟨rfl,rfl⟩
    . refine i_bF (by simpa using hne) ?_
      walk_at "go"
      refine r_dGs (.inl hd) ep ?_
      walk_at "go"
      refine r_mul (M zf.1 zT.2) ?_
      walk_at "go"
      refine r_mul (M zT.1 zf.2) ?_
      walk_at "go"
      refine r_mul (M zf.2 zT.2) ?_
      walk_at "go"
      refine r_tupK fun p5 hp5 => ?_
      have s5:=Same.new (o:=.tup [.int (f.num * r.2.2.den + r.2.2.num * f.den),.int (f.den * r.2.2.den)]) hp5
      have h5:=upd_same (H:=H) (a:=p5) (o:=.tup [.int (f.num * r.2.2.den + r.2.2.num * f.den),.int (f.den * r.2.2.den)])
      generalize L2.upd H p5 (.tup [.int (f.num * r.2.2.den + r.2.2.num * f.den),.int (f.den * r.2.2.den)]) = H5 at s5 h5 ⊢
      have hv5:=s5 _ _ hv
      have ht5:=s5 _ _ ht
      walk_at "go"
      refine r_mul (M' zt.1 ((Sm.mul (show Sm 400 (f.den:Int) from zf.2) (show Sm 400 (r.2.2.den:Int) from zT.2)).mono (by decide))) ?_
      walk_at "go"
      refine r_mul (M' ((Sm.add (Sm.mul (show Sm 400 f.num from zf.1) (show Sm 400 (r.2.2.den:Int) from zT.2)) (Sm.mul (show Sm 400 r.2.2.num from zT.1) (show Sm 400 (f.den:Int) from zf.2))).mono (by decide)) zt.2) ?_
      walk_at "go"
      rw [decide_eq_true (cross_sum f r.2.2)]
      walk_at "go"
      refine r_dGs (.inl (s5 _ _ hd)) eq ?_
      walk_at "go"
      refine e_2 (s5 _ _ hq) ht5 ?_
      rw [decide_eq_true ⟨rfl,rfl⟩]
      walk_at "go"
      exact q _ s5
    . refine i_bT (beq_self_eq_true _) ?_
      walk_at "go"
      refine r_dGs (.inl hd) ep ?_
      walk_at "go"
      refine r_mul (M zf.1 zT.2) ?_
      walk_at "go"
      refine r_mul (M zT.1 zf.2) ?_
      walk_at "go"
      refine r_mul (M zf.2 zT.2) ?_
      walk_at "go"
      refine r_tupK fun p5 hp5 => ?_
      have s5:=Same.new (o:=.tup [.int (f.num * r.2.2.den + r.2.2.num * f.den),.int (f.den * r.2.2.den)]) hp5
      have h5:=upd_same (H:=H) (a:=p5) (o:=.tup [.int (f.num * r.2.2.den + r.2.2.num * f.den),.int (f.den * r.2.2.den)])
      generalize L2.upd H p5 (.tup [.int (f.num * r.2.2.den + r.2.2.num * f.den),.int (f.den * r.2.2.den)]) = H5 at s5 h5 ⊢
      have hv5:=s5 _ _ hv
      have ht5:=s5 _ _ ht
      walk_at "go"
      refine r_mul (M' zt.1 ((Sm.mul (show Sm 400 (f.den:Int) from zf.2) (show Sm 400 (r.2.2.den:Int) from zT.2)).mono (by decide))) ?_
      walk_at "go"
      refine r_mul (M' ((Sm.add (Sm.mul (show Sm 400 f.num from zf.1) (show Sm 400 (r.2.2.den:Int) from zT.2)) (Sm.mul (show Sm 400 r.2.2.num from zT.1) (show Sm 400 (f.den:Int) from zf.2))).mono (by decide)) zt.2) ?_
      walk_at "go"
      rw [decide_eq_true (cross_sum f r.2.2)]
      walk_at "go"
      refine r_dGs (.inl (s5 _ _ hd)) eq ?_
      walk_at "go"
      refine e_2 (s5 _ _ hq) ht5 ?_
      rw [decide_eq_true ⟨rfl,rfl⟩]
      walk_at "go"
      exact q _ s5
set_option maxHeartbeats 0 in
theorem ok_run_right (T:Bl mg) (d:Df K mg "_law_run_right" s_run_right ["_law_net_here","_law_pushes_here","_law_takings","_law_k","_law_moments","_law_fallen"]  ) (o_swept:Okf P w K mg base k "_law_swept" ["_law_net_here","_law_fallen","_law_k","_law_told"] spSwept23) (o_less:Okf P w K mg base k "_law_less" ["_law_one","_law_other"] spLessQ2) (o_end_at:Okf P w K mg base k "_law_end_at" ["_law_told"] spEndAt) (o_within:Okf P w K mg base k "_law_within" ["_law_inner","_law_outer"] spWithin) (o_standing_in:OkfD P w K mg base k "standing_in" ["net","pushes","number","moment","takings"] [.non] (spStIn w)) (o_ending_of:OkfK P w K mg base k "ending_of" ["net","pushes","number","takings"] [.non] 3 ["takings"] (spEnOf w)):Okf P w K mg base (k + 1) "_law_run_right" ["_law_net_here","_law_pushes_here","_law_takings","_law_k","_law_moments","_law_fallen"] (spRunR w):=by
  refine Okf.of d sc_run_right (fun vs H Q E h => ?_) (fun f cdv A outer s H vs Q E hr h => ?_)
  . obtain ⟨l,n,lp,ps,lt,ts,DD,MM,U,kk,r,lm,ym,ms,d',kd,F0,rfl,_⟩:=h
    rfl
  . obtain ⟨l,n,lp,ps,lt,ts,DD,MM,U,kk,r,lm,ym,ms,d',kd,F0,rfl,hnet,hps,hts,hR,hU,hUn,hnk,zB,zT,hlm,pm,hris,zms,hd',get,fo0,q⟩:=h
    refine ⟨_,(@pss_cons _ _ _ _ _ (@ps_set _ _ (i:=6) _ _ _ _ sc_run_right.nd rfl (by first | exact Or.inl rfl | exact Or.inr rfl) (@pe_callO _ _ _ _ _ _ _ _ _ _ o_ending_of.d.f hr rfl (@pa_cons _ _ _ _ _ (pv 0) (@pa_cons _ _ _ _ _ (pv 1) (@pa_cons _ _ _ _ _ (pv 3) (@pa_cons _ _ _ _ _ (pv 2) (@pa_nil _) (by rfl)) (by rfl)) (by rfl)) (by rfl)) (by decide) (by rfl) (by rfl)) (by rfl) (by first | exact .inl rfl | exact .inr rfl | assumption)) (@pss_cons _ _ _ _ _ (@ps_set _ _ (i:=7) _ _ _ _ sc_run_right.nd rfl (by first | exact Or.inl rfl | exact Or.inr rfl) (@pe_tup _ _ _ _ _ (@pa_cons _ _ _ _ _ (@pe_tup _ _ _ _ _ (@pa_cons _ _ _ _ _ (@pe_int _ _ _ _) (@pa_cons _ _ _ _ _ (@pe_int _ _ _ _) (@pa_nil _) (by rfl)) (by rfl))) (@pa_cons _ _ _ _ _ (@pe_tup _ _ _ _ _ (@pa_cons _ _ _ _ _ (@pe_int _ _ _ _) (@pa_cons _ _ _ _ _ (@pe_int _ _ _ _) (@pa_nil _) (by rfl)) (by rfl))) (@pa_nil _) (by rfl)) (by rfl))) (by rfl) (by first | exact .inl rfl | exact .inr rfl | assumption)) (@pss_cons _ _ _ _ _ (@ps_for _ _ _ _ _ _ _ _ PassesOwn.never rfl (@pi_list _ _ _ _ (pv 4)) (@pg_name _ _ (i:=8) _ sc_run_right.nd rfl (by first | exact Or.inl rfl | exact Or.inr rfl) (by first | exact .inl rfl | exact .inr rfl | assumption)) (@pss_cons _ _ _ _ _ (@ps_set _ _ (i:=9) _ _ _ _ sc_run_right.nd rfl (by first | exact Or.inl rfl | exact Or.inr rfl) (@pe_callO _ _ _ _ _ _ _ _ _ _ o_standing_in.f hr rfl (@pa_cons _ _ _ _ _ (pv 0) (@pa_cons _ _ _ _ _ (pv 1) (@pa_cons _ _ _ _ _ (pv 3) (@pa_cons _ _ _ _ _ (pv 8) (@pa_cons _ _ _ _ _ (pv 2) (@pa_nil _) (by rfl)) (by rfl)) (by rfl)) (by rfl)) (by rfl)) (by decide) (by rfl) (by rfl)) (by rfl) (by first | exact .inl rfl | exact .inr rfl | assumption)) (@pss_cons _ _ _ _ _ (@ps_if _ _ _ _ _ _ _ _ (@pt_not _ _ _ _ (@pt_val _ _ _ (@pe_callO _ _ _ _ _ _ _ _ _ _ o_within hr rfl (@pa_cons _ _ _ _ _ (pv 9) (@pa_cons _ _ _ _ _ (pv 7) (@pa_nil _) (by rfl)) (by rfl)) (by decide) (by rfl) (by rfl)) (by intro _; rfl))) (@pss_one _ _ _ (@ps_ret _ _ _ _ (@pe_bl _ _ _ _))) (@pss_nil _)) (@pss_cons _ _ _ _ _ (@ps_set _ _ (i:=10) _ _ _ _ sc_run_right.nd rfl (by first | exact Or.inl rfl | exact Or.inr rfl) (@pe_and _ _ _ _ _ _ _ (@pe_cmpR _ _ _ _ _ _ _ _ (op_neA hr.units) (@pe_ix _ _ _ _ _ _ _ ix_LT (pv 6) (@pe_int _ _ _ _) (fun _ _ => rfl)) (@pe_str _ _ _ _) (nomark _)) (@pe_one _ _ _ _ _ (@pe_not _ _ _ _ (@pe_callO _ _ _ _ _ _ _ _ _ _ o_less hr rfl (@pa_cons _ _ _ _ _ (pv 8) (@pa_cons _ _ _ _ _ (@pe_ix _ _ _ _ _ _ _ ix_LT (pv 6) (@pe_callO _ _ _ _ _ _ _ _ _ _ o_end_at hr rfl (@pa_cons _ _ _ _ _ (pv 6) (@pa_nil _) (by rfl)) (by decide) (by rfl) (by rfl)) (fun _ _ => rfl)) (@pa_nil _) (by rfl)) (by rfl)) (by decide) (by rfl) (by rfl))))) (by rfl) (by first | exact .inl rfl | exact .inr rfl | assumption)) (@pss_cons _ _ _ _ _ (@ps_if _ _ _ _ _ _ _ _ (@pt_cmpR _ _ _ _ _ _ _ _ (op_neA hr.units) (@pe_cmpR _ _ _ _ _ _ _ _ op_isN2 (pv 9) (@pe_non _ _ _) (nomark _)) (pv 10) (nomark _)) (@pss_one _ _ _ (@ps_ret _ _ _ _ (@pe_bl _ _ _ _))) (@pss_nil _)) (@pss_cons _ _ _ _ _ (@ps_if _ _ _ _ _ _ _ _ (@PW.pt _ _ _ (@pw_and _ _ _ _ _ _ _ (@pt_cmpR _ _ _ _ _ _ _ _ (op_eqA hr.units) (@pe_ix _ _ _ _ _ _ _ ix_LT (pv 6) (@pe_int _ _ _ _) (fun _ _ => rfl)) (@pe_str _ _ _ _) (nomark _)) (@pw_and1 _ _ _ _ (@pt_cmpR _ _ _ _ _ _ _ _ op_notN2 (pv 9) (@pe_non _ _ _) (nomark _))))) (@pss_one _ _ _ (@ps_if _ _ _ _ _ _ _ _ (@PW.pt _ _ _ (@pw_or _ _ _ _ _ _ _ (@pt_not _ _ _ _ (@pt_val _ _ _ (@pe_callO _ _ _ _ _ _ _ _ _ _ o_less hr rfl (@pa_cons _ _ _ _ _ (@pe_ix _ _ _ _ _ _ _ ix_LT (pv 9) (@pe_int _ _ _ _) (fun _ _ => rfl)) (@pa_cons _ _ _ _ _ (@pe_ix _ _ _ _ _ _ _ ix_LT (pv 6) (@pe_int _ _ _ _) (fun _ _ => rfl)) (@pa_nil _) (by rfl)) (by rfl)) (by decide) (by rfl) (by rfl)) (by intro _; rfl))) (@pw_or1 _ _ _ _ (@pt_not _ _ _ _ (@pt_val _ _ _ (@pe_callO _ _ _ _ _ _ _ _ _ _ o_less hr rfl (@pa_cons _ _ _ _ _ (@pe_ix _ _ _ _ _ _ _ ix_LT (pv 6) (@pe_int _ _ _ _) (fun _ _ => rfl)) (@pa_cons _ _ _ _ _ (@pe_ix _ _ _ _ _ _ _ ix_LT (pv 9) (@pe_int _ _ _ _) (fun _ _ => rfl)) (@pa_nil _) (by rfl)) (by rfl)) (by decide) (by rfl) (by rfl)) (by intro _; rfl)))))) (@pss_one _ _ _ (@ps_ret _ _ _ _ (@pe_bl _ _ _ _))) (@pss_nil _))) (@pss_nil _)) (@pss_one _ _ _ (@ps_set _ _ (i:=7) _ _ _ _ sc_run_right.nd rfl (by first | exact Or.inl rfl | exact Or.inr rfl) (pv 9) (by rfl) (by first | exact .inl rfl | exact .inr rfl | assumption)))))))) (by intro _; rfl)) (@pss_cons _ _ _ _ _ (@ps_if _ _ _ _ _ _ _ _ (@pt_cmpR _ _ _ _ _ _ _ _ (op_eqA hr.units) (@pe_ix _ _ _ _ _ _ _ ix_LT (pv 6) (@pe_int _ _ _ _) (fun _ _ => rfl)) (@pe_str _ _ _ _) (nomark _)) (@pss_one _ _ _ (@ps_ret _ _ _ _ (@pe_cmpR _ _ _ _ _ _ _ _ (op_eqB hr.units) (pv 7) (@pe_tup _ _ _ _ _ (@pa_cons _ _ _ _ _ (@pe_tup _ _ _ _ _ (@pa_cons _ _ _ _ _ (@pe_int _ _ _ _) (@pa_cons _ _ _ _ _ (@pe_int _ _ _ _) (@pa_nil _) (by rfl)) (by rfl))) (@pa_cons _ _ _ _ _ (@pe_tup _ _ _ _ _ (@pa_cons _ _ _ _ _ (@pe_int _ _ _ _) (@pa_cons _ _ _ _ _ (@pe_int _ _ _ _) (@pa_nil _) (by rfl)) (by rfl))) (@pa_nil _) (by rfl)) (by rfl))) (nomark _)))) (@pss_nil _)) (@pss_one _ _ _ (@ps_ret _ _ _ _ (@pe_or _ _ _ _ _ _ _ (@pe_cmpR _ _ _ _ _ _ _ _ (op_neA hr.units) (@pe_ix _ _ _ _ _ _ _ ix_LT (pv 6) (@pe_int _ _ _ _) (fun _ _ => rfl)) (@pe_str _ _ _ _) (nomark _)) (@pe_one _ _ _ _ _ (@pe_callO _ _ _ _ _ _ _ _ _ _ o_swept hr rfl (@pa_cons _ _ _ _ _ (pv 0) (@pa_cons _ _ _ _ _ (pv 5) (@pa_cons _ _ _ _ _ (pv 3) (@pa_cons _ _ _ _ _ (pv 6) (@pa_nil _) (by rfl)) (by rfl)) (by rfl)) (by rfl)) (by decide) (by rfl) (by rfl)))))))))),?_⟩
    try dsimp only [cxK_nox,cxK_of]
    have hrm:=List.mem_of_getElem? hnk
    have pT:(0:Rat) < r.2.2:=hnet.pos _ (List.mem_map.mpr ⟨r,hrm,rfl⟩)
    have hT0:=Rat.ne_of_gt pT
    have zr:Sz 400 r.2.2:=zB _ ((hnet.bd _ (List.mem_map.mpr ⟨r,hrm,rfl⟩)).mono (by omega))
    have zk:∀ f,tkOf ts kk = some f -> Sz 400 f:=fun f e => zT _ (lst_mem (aget_mem e))
    have uniq:∀ {F:AL Key (EntD Key)},FOrd (kn n) (aget (lst ps)) (tkOf ts) F -> momOf F = momOf F0:=fun fo => Falls.uniq fo.falls fo0.falls
    walk_at "go"
    refine ⟨l,n,lp,ps,.ref lt,ts,DD,MM,U,kk,r,rfl,hnet,hps,hts,hR,hU,hUn,hnk,zB,zT,fun v1 H1 F s1 fo zF ev => ?_⟩
    rw [uniq fo] at zF ev
    clear fo F
    have zOver:=end_at_sz (a:=r.1) (b:=r.2.1) (tk:=tkOf ts kk) zr (zF (Sum.inr r.1)) (zF (Sum.inr r.2.1)) zk
    have zMet:=met_sz (a:=r.1) (b:=r.2.1) (tk:=tkOf ts kk) hT0 zr (zF (Sum.inr r.1)) (zF (Sum.inr r.2.1))
    have over:=fun m => over_iff (a:=r.1) (b:=r.2.1) (oa:=momOf F0 (Sum.inr r.1)) (ob:=momOf F0 (Sum.inr r.2.1)) (tk:=tkOf ts kk) (m:=m) pT
    have metI:=fun m t s => met_in (a:=r.1) (b:=r.2.1) (oa:=momOf F0 (Sum.inr r.1)) (ob:=momOf F0 (Sum.inr r.2.1)) (tk:=tkOf ts kk) (m:=m) (t:=t) (s:=s) pT
    have stdI:=stands_none (a:=r.1) (b:=r.2.1) (oa:=momOf F0 (Sum.inr r.1)) (ob:=momOf F0 (Sum.inr r.2.1)) (tk:=tkOf ts kk) (T:=r.2.2)
    have swI:=fun p t => swept_ok fo0.falls hnk pT (p:=p) (t:=t)
    generalize endT (endF r.1 r.2.1 (momOf F0 (Sum.inr r.1)) (momOf F0 (Sum.inr r.2.1)) r.2.2) (tkOf ts kk) = e at ev zOver zMet over metI stdI swI
    obtain ⟨pe,xe,rfl,hpe⟩:=end_nm ev
    have hnames:∀ {x y:Str},x ≠ y -> (x == y) = false:=fun h => by simpa using h
    walk_at "go"
    refine r_tupK fun p1 hp1 => ?_
    have f1:FrQ (L2.upd H1 p1 (.tup [.int 0,.int 1])) (.ref p1) 0:=⟨p1,rfl,upd_same⟩
    have s2:=s1.trans (Same.new (o:=.tup [.int 0,.int 1]) hp1)
    have t2:=Same.new (o:=.tup [.int 0,.int 1]) hp1
    generalize L2.upd H1 p1 (.tup [.int 0,.int 1]) = H2 at f1 s2 t2 ⊢
    walk_at "go"
    refine r_tupK fun p2 hp2 => ?_
    have f2:FrQ (L2.upd H2 p2 (.tup [.int 1,.int 1])) (.ref p2) 1:=⟨p2,rfl,upd_same⟩
    have t3:=Same.new (o:=.tup [.int 1,.int 1]) hp2
    generalize L2.upd H2 p2 (.tup [.int 1,.int 1]) = H3 at f2 t3 ⊢
    walk_at "go"
    refine r_tupK fun p3 hp3 => ?_
    have t4:=Same.new (o:=.tup [.ref p1,.ref p2]) hp3
    have l3:LeftQ (L2.upd H3 p3 (.tup [.ref p1,.ref p2])) (.ref p3) (some (0,1)):=⟨p3,_,_,rfl,upd_same,(f1.tk t3.tk).tk t4.tk,f2.tk t4.tk⟩
    have s4:=t2.trans (t3.trans t4)
    generalize L2.upd H3 p3 (.tup [.ref p1,.ref p2]) = H4 at l3 s4 ⊢
    clear f1 f2 t2 t3 t4 s2 hp1 hp2 hp3
    walk_at "go"
    refine r_listK (SqL.of (s4 _ _ (s1 _ _ hlm))) ?_
    refine r_forLo (xs:=ym) (fun i σ G => ∃ (vl:V) (o:Option (Rat×Rat)) (o8 o9 o10:Option V),σ = [some (.ref l),some (.ref lp),some (.ref lt),some (.int (kk:Int)),some (.ref lm),some (.ref d'),some (.ref pe),some vl,o8,o9,o10] /\ Same H1 G /\ LeftQ G vl o /\ (∀ x,o = some x -> Sz 3000 x.1 /\ Sz 3000 x.2) /\ ((i = 0 /\ o = some (0,1)) ∨ ∃ m',0 < i /\ ms[i - 1]? = some m' /\ o = stn (momOf F0 (Sum.inr r.1)) (momOf F0 (Sum.inr r.2.1)) (tkOf ts kk) r.2.2 m')) ⟨_,_,_,_,_,rfl,s4,l3,(fun x h => by cases h; exact ⟨⟨by decide,by decide⟩,⟨by decide,by decide⟩⟩),.inl ⟨rfl,rfl⟩⟩ ?_ ?_ ?_
    . rintro i σ G _ ⟨vl,o,o8,o9,o10,rfl,sG,_⟩
      exact SqL.of (sG _ _ (s1 _ _ hlm))
    . intro P' rt' bk' hP'
      rintro i x σ G hx ⟨vl,o,o8,o9,o10,rfl,sG,lv,zo,ho⟩
      obtain ⟨m,hm,fm⟩:=Paired.at pm hx
      have zm:=zms m (List.mem_of_getElem? hm)
      have sH:=s1.trans sG
      walk_at "go"
      refine ⟨l,n,lp,ps,.ref lt,ts,DD,MM,U,kk,r,x,m,rfl,hnet.sm sH,hps.sm sH,hts.sm sH,hR,hU,hUn,hnk,fm.tk sH.tk,zm,zB,zT,fun v2 G2 F t2 fo _ lw => ?_⟩
      rw [uniq fo] at lw
      clear fo
      have zl:=stn_sz (tk:=tkOf ts kk) hT0 zr zm (zF (Sum.inr r.1)) (zF (Sum.inr r.2.1))
      have cond:∀ y,stn (momOf F0 (Sum.inr r.1)) (momOf F0 (Sum.inr r.2.1)) (tkOf ts kk) r.2.2 m = some y -> y.1 < y.2 /\ ∃ z,o = some z /\ z.1 <= y.1 /\ y.2 <= z.2:=fun y hy => by
        refine ⟨(stn_some hy).2,?_⟩
        rcases ho with ⟨_,rfl⟩ | ⟨m',hi0,hm',rfl⟩
        . exact ⟨_,rfl,stn_in pT hy⟩
        . have hle:m' <= m:=by
            obtain ⟨b1,e1⟩:=List.getElem?_eq_some_iff.mp hm'
            obtain ⟨b2,e2⟩:=List.getElem?_eq_some_iff.mp hm
            have:=List.pairwise_iff_getElem.mp hris (i - 1) i b1 b2 (by omega)
            rw [e1,e2] at this
            exact this
          exact stn_up pT hle hy
      have ov:=over m
      have mt:=metI m
      have stnF:=fun (x:Rat×Rat) => stn_some (x:=x) (oa:=momOf F0 (Sum.inr r.1)) (ob:=momOf F0 (Sum.inr r.2.1)) (tk:=tkOf ts kk) (T:=r.2.2) (m:=m)
      generalize hs:stn (momOf F0 (Sum.inr r.1)) (momOf F0 (Sum.inr r.2.1)) (tkOf ts kk) r.2.2 m = st at lw zl cond ov stnF
      walk_at "go"
      refine ⟨v2,vl,st,o,rfl,lw,lv.tk t2.tk,zl,zo,cond,?_⟩
      have sG2:=sG.trans t2
      have fm2:=(fm.tk s1.tk).tk sG2.tk
      have ev2:=ev.tk sG2.tk
      have hpe2:=sG2 _ _ hpe
      walk_at "gos"
      refine r_nx ?_
      refine r_seq ?_
      refine r_cut (fun σ G => σ = [some (.ref l),some (.ref lp),some (.ref lt),some (.int (kk:Int)),some (.ref lm),some (.ref d'),some (.ref pe),some vl,some x,some v2,some (.bl st.isNone)] /\ Same G2 G) ?_ ?_
      . rintro σ G3 ⟨rfl,t3⟩
        have sG3:=sG2.trans t3
        have lw3:=lw.tk t3.tk
        have hpe3:=t3 _ _ hpe2
        have ev3:=ev2.tk t3.tk
        have fin:∀ G4,Same G3 G4 -> ∃ (vl:V) (o:Option (Rat×Rat)) (o8 o9 o10:Option V),[some (.ref l),some (.ref lp),some (.ref lt),some (.int (kk:Int)),some (.ref lm),some (.ref d'),some (.ref pe),some v2,some x,some v2,some (V.bl st.isNone)] = [some (.ref l),some (.ref lp),some (.ref lt),some (.int (kk:Int)),some (.ref lm),some (.ref d'),some (.ref pe),some vl,o8,o9,o10] /\ Same H1 G4 /\ LeftQ G4 vl o /\ (∀ x,o = some x -> Sz 3000 x.1 /\ Sz 3000 x.2) /\ ((i + 1 = 0 /\ o = some (0,1)) ∨ ∃ m',0 < i + 1 /\ ms[i + 1 - 1]? = some m' /\ o = stn (momOf F0 (Sum.inr r.1)) (momOf F0 (Sum.inr r.2.1)) (tkOf ts kk) r.2.2 m'):=fun G4 t4 => ⟨v2,st,_,_,_,rfl,sG3.trans t4,lw3.tk t4.tk,zl,.inr ⟨m,Nat.succ_pos _,hm,hs.symm⟩⟩
        replace fin:=fun G4 t4 => hP' _ _ _ (fin G4 t4)
        cases st with
        | none =>
          cases (show v2 = .non from lw)
          walk_at "go"
          rw [show ((true:Bool) == (none:Option (Rat×Rat)).isNone) = true from rfl]
          walk_at "go"
          refine r_ixt hpe3 (at0 _ _) ?_
          walk_at "go"
          by_cases cm:endNm e = "met"
          . refine i_bT (by rw [cm]; exact beq_self_eq_true _) ?_
            walk_at "go"
            exact fin _ (Same.refl _)
          . refine i_bF (hnames cm) ?_
            walk_at "go"
            exact fin _ (Same.refl _)
        | some y =>
          obtain ⟨pl,ua,ub,rfl,hpl,fa,fb⟩:=id lw3
          walk_at "go"
          rw [show ((false:Bool) == (some y:Option (Rat×Rat)).isNone) = true from rfl]
          walk_at "go"
          refine r_ixt hpe3 (at0 _ _) ?_
          walk_at "go"
          by_cases cm:endNm e = "met"
          . refine i_bT (by rw [cm]; exact beq_self_eq_true _) ?_
            obtain ⟨t,s',rfl⟩:=end_met cm
            have hmt:m < t:=Rat.not_le.mp fun z => by
              have:=ov.mpr ⟨t,rfl,z⟩
              cases this
            obtain ⟨g1,g2⟩:=mt t s' rfl hmt
            obtain ⟨ey,_⟩:=stnF _ rfl
            obtain ⟨py,uu,ww,epy,hpy,fuu,fww⟩:=ev3
            cases epy
            have zs':=zMet t s' rfl
            obtain ⟨zy1,zy2⟩:=zl y rfl
            walk_at "go"
            refine ⟨ua,ww,y.1,s',rfl,fa,fww,zy1.mono (by decide),zs'.mono (by decide),?_⟩
            rw [decide_eq_true (show y.1 < s' by rw [ey]; exact g1)]
            walk_at "go"
            refine ⟨ww,ub,s',y.2,rfl,fww,fb,zs'.mono (by decide),zy2.mono (by decide),?_⟩
            rw [decide_eq_true (show s' < y.2 by rw [ey]; exact g2)]
            walk_at "go"
            exact fin _ (Same.refl _)
          . refine i_bF (hnames cm) ?_
            walk_at "go"
            exact fin _ (Same.refl _)
      . intro NX hNX
        walk_at "go"
        refine r_ixt hpe2 (at0 _ _) ?_
        walk_at "go"
        by_cases cs:endNm e = "stands"
        . refine i_bT (by rw [cs]; exact beq_self_eq_true _) ?_
          have es:=end_stands.mp cs
          have hst:st.isNone = false:=by
            cases st with
            | some y => rfl
            | none =>
              obtain ⟨t,e1,_⟩:=ov.mp rfl
              rw [es] at e1
              cases e1
          walk_at "go"
          rw [hst] at hNX
          exact hNX _ _ ⟨rfl,Same.refl _⟩
        . refine i_bF (hnames cs) ?_
          obtain ⟨t,et⟩:∃ t,endAt e = some t:=by
            cases e with
            | stands => exact absurd rfl cs
            | swept s t => exact ⟨t,rfl⟩
            | met t s => exact ⟨t,rfl⟩
            | taken t => exact ⟨t,rfl⟩
          obtain ⟨pz,xz,uz,ez,hz,iz,fz⟩:=end_fr ev2 et
          cases ez
          walk_at "go"
          refine ⟨.ref pe,e,rfl,ev2,fun G3 t3 => ?_⟩
          refine r_ixt (t3 _ _ hz) iz ?_
          walk_at "go"
          refine ⟨x,uz,m,t,rfl,fm2.tk t3.tk,fz.tk t3.tk,zm.mono (by decide),(zOver t et).mono (by decide),?_⟩
          have hst:st.isNone = !decide (m < t):=by
            cases st with
            | none =>
              obtain ⟨t',e1,h1⟩:=ov.mp rfl
              rw [et] at e1
              cases e1
              rw [decide_eq_false (Rat.not_lt.mpr h1)]
              rfl
            | some y =>
              by_cases c:m < t
              . rw [decide_eq_true c]
                rfl
              . have:=ov.mpr ⟨t,et,Rat.not_lt.mp c⟩
                cases this
          rw [hst] at hNX
          walk_at "go"
          exact hNX _ _ ⟨rfl,t3⟩
    rintro σ G ⟨vl,o,o8,o9,o10,rfl,sG,lv,zo,ho⟩
    have hpeG:=sG _ _ hpe
    have evG:=ev.tk sG.tk
    walk_at "go"
    refine r_ixt hpeG (at0 _ _) ?_
    walk_at "go"
    by_cases cs:endNm e = "stands"
    . refine i_bT (by rw [cs]; exact beq_self_eq_true _) ?_
      have es:=end_stands.mp cs
      obtain ⟨e1,e2,e3⟩:=stdI es
      have eo:o = some (0,1):=by
        rcases ho with ⟨_,h⟩ | ⟨m',_,_,h⟩
        . exact h
        . rw [h,e1,e2,e3]
          exact stn_whole
      subst eo
      walk_at "go"
      refine r_tupK fun p1 hp1 => ?_
      have f1:FrQ (L2.upd G p1 (.tup [.int 0,.int 1])) (.ref p1) 0:=⟨p1,rfl,upd_same⟩
      have t2:=Same.new (o:=.tup [.int 0,.int 1]) hp1
      generalize L2.upd G p1 (.tup [.int 0,.int 1]) = H2 at f1 t2 ⊢
      walk_at "go"
      refine r_tupK fun p2 hp2 => ?_
      have f2:FrQ (L2.upd H2 p2 (.tup [.int 1,.int 1])) (.ref p2) 1:=⟨p2,rfl,upd_same⟩
      have t3:=Same.new (o:=.tup [.int 1,.int 1]) hp2
      generalize L2.upd H2 p2 (.tup [.int 1,.int 1]) = H3 at f2 t3 ⊢
      walk_at "go"
      refine r_tupK fun p3 hp3 => ?_
      have t4:=Same.new (o:=.tup [.ref p1,.ref p2]) hp3
      have l3:LeftQ (L2.upd H3 p3 (.tup [.ref p1,.ref p2])) (.ref p3) (some (0,1)):=⟨p3,_,_,rfl,upd_same,(f1.tk t3.tk).tk t4.tk,f2.tk t4.tk⟩
      have s4:=t2.trans (t3.trans t4)
      generalize L2.upd H3 p3 (.tup [.ref p1,.ref p2]) = H4 at l3 s4 ⊢
      refine e_left (lv.tk s4.tk) l3 ?_
      walk_at "go"
      exact q _ ((s1.trans sG).trans s4)
    . refine i_bF (hnames cs) ?_
      walk_at "go"
      refine r_ixt hpeG (at0 _ _) ?_
      walk_at "go"
      by_cases cw:endNm e = "swept"
      . rw [show (endNm e == Str.ofString "swept") = true by rw [cw]; exact beq_self_eq_true _]
        obtain ⟨p,t,rfl⟩:=end_swept cw
        obtain ⟨f,sq,ep,et,eq,hor⟩:=swI p t rfl
        have hpn:p ∈ names n /\ sq ∈ names n:=by
          have h1:r.1 ∈ names n:=List.mem_append_left _ (List.mem_map.mpr ⟨r,hrm,rfl⟩)
          have h2:r.2.1 ∈ names n:=List.mem_append_right _ (List.mem_map.mpr ⟨r,hrm,rfl⟩)
          rcases hor with ⟨rfl,rfl,_⟩ | ⟨rfl,rfl⟩
          . exact ⟨h1,h2⟩
          . exact ⟨h2,h1⟩
        obtain ⟨vp,evp,qvp⟩:=get p hpn.1
        obtain ⟨vq,evq,qvq⟩:=get sq hpn.2
        rw [ep] at qvp
        rw [eq] at qvq
        have sH:=s1.trans sG
        walk_at "go"
        refine ⟨l,n,d',kd,kk,.ref pe,p,t,r,f,sq,vp,vq,rfl,(hnet.sm sH).lq,sH _ _ hd',evG,hnk,evp,(show FrQ H vp f from qvp).tk sH.tk,evq,(show FrQ H vq t from qvq).tk sH.tk,et,hor,zF _ _ ep,zr,fun G5 t5 => ?_⟩
        walk_at "go"
        exact q _ (sH.trans t5)
      . rw [show (endNm e == Str.ofString "swept") = false from hnames cw]
        walk_at "go"
        exact q _ (s1.trans sG)
set_option maxHeartbeats 0 in
theorem ok_law {f:Addr} {fd:FuncData} (T:Bl mg) (F:Fun K "law" "law" s_law f fd) (o_ending_of:OkfK P w K mg base k "ending_of" ["net","pushes","number","takings"] [.non] 3 ["takings"] (spEnOf w)) (o_standing_in:OkfD P w K mg base k "standing_in" ["net","pushes","number","moment","takings"] [.non] (spStIn w)) (o_run_right:Okf P w K mg base k "_law_run_right" ["_law_net_here","_law_pushes_here","_law_takings","_law_k","_law_moments","_law_fallen"] (spRunR w)) (o_low:Okf P w K mg base k "_law_low" ["_law_top","_law_bottom"] spLowest) (o_number:Okf P w K mg base k "_law_number" ["_law_script","_law_k"] (spNum24 K)) (o_fall_moments:OkfD P w K mg base k "fall_moments" ["net","pushes","takings"] [.non] (spFm w)) (o_handed:Okf P w K mg base k "_law_handed" ["_law_here_here"] spHanded24) (o_net:Okf P w K mg base k "_law_net" ["_law_here_here"] spNet24) (o_here:Okf P w K mg base k "_law_here" ["_law_script","_law_most"] (spHere24 K)):FnOk P w K mg base CX0 (k + 1) f fd ["_law_script"] (spLaw K):=by
  refine F.ok sc_law (fun vs H Q E h => ?_) (fun cdv A outer s H vs Q E hr h => ?_)
  . obtain ⟨a,ns,rfl,_⟩:=h
    rfl
  . obtain ⟨a,ns,rfl,hS,h63,q⟩:=h
    refine ⟨_,(@pss_cons _ _ _ _ _ (@ps_set _ _ (i:=1) _ _ _ _ sc_law.nd rfl (by first | exact Or.inl rfl | exact Or.inr rfl) (@pe_callO _ _ _ _ _ _ _ _ _ _ o_here hr rfl (@pa_cons _ _ _ _ _ (pv 0) (@pa_cons _ _ _ _ _ (@pe_int _ _ _ _) (@pa_nil _) (by rfl)) (by rfl)) (by decide) (by rfl) (by rfl)) (by rfl) (by first | exact .inl rfl | exact .inr rfl | assumption)) (@pss_cons _ _ _ _ _ (@ps_set _ _ (i:=2) _ _ _ _ sc_law.nd rfl (by first | exact Or.inl rfl | exact Or.inr rfl) (@pe_callO _ _ _ _ _ _ _ _ _ _ o_net hr rfl (@pa_cons _ _ _ _ _ (pv 1) (@pa_nil _) (by rfl)) (by decide) (by rfl) (by rfl)) (by rfl) (by first | exact .inl rfl | exact .inr rfl | assumption)) (@pss_cons _ _ _ _ _ (@ps_asg _ _ _ _ _ _ (@pe_callO _ _ _ _ _ _ _ _ _ _ o_handed hr rfl (@pa_cons _ _ _ _ _ (pv 1) (@pa_nil _) (by rfl)) (by decide) (by rfl) (by rfl)) (@pg_tup _ _ _ _ _ (n:=2) rfl (@pgs_cons _ _ _ _ _ (@pg_name _ _ (i:=3) _ sc_law.nd rfl (by first | exact Or.inl rfl | exact Or.inr rfl) (by first | exact .inl rfl | exact .inr rfl | assumption)) (@pgs_cons _ _ _ _ _ (@pg_name _ _ (i:=4) _ sc_law.nd rfl (by first | exact Or.inl rfl | exact Or.inr rfl) (by first | exact .inl rfl | exact .inr rfl | assumption)) (@pgs_nil _) (by rfl)) (by rfl)) (by rfl) (by rfl)) (by rfl) (by rfl) (by rfl)) (@pss_cons _ _ _ _ _ (@ps_set _ _ (i:=5) _ _ _ _ sc_law.nd rfl (by first | exact Or.inl rfl | exact Or.inr rfl) (@pe_callO _ _ _ _ _ _ _ _ _ _ o_fall_moments.f hr rfl (@pa_cons _ _ _ _ _ (pv 2) (@pa_cons _ _ _ _ _ (pv 3) (@pa_cons _ _ _ _ _ (pv 4) (@pa_nil _) (by rfl)) (by rfl)) (by rfl)) (by decide) (by rfl) (by rfl)) (by rfl) (by first | exact .inl rfl | exact .inr rfl | assumption)) (@pss_cons _ _ _ _ _ (@ps_set _ _ (i:=6) _ _ _ _ sc_law.nd rfl (by first | exact Or.inl rfl | exact Or.inr rfl) (@pe_callB _ _ _ _ _ _ _ _ _ call_sortL rfl T.z_sorted bt_sorted (@pa_cons _ _ _ _ _ (@pe_comp _ _ _ _ _ _ _ _ _ _ _ _ _ _ (@comp_ck _ _ (sc:=defScope s_law) (N:=["_law_script","_law_here_here","_law_net_here","_law_pushes_here","_law_takings","_law_fallen","_law_some","_law_moments","_law_k"]) (tn:=["_law_k"]) (names:=["_law_script"]) (is:=[0]) rfl rfl (by decide +kernel) (by decide +kernel) rfl (by decide +kernel) rfl (by decide +kernel) (by decide +kernel) (by decide +kernel)) rfl (@pi_range1 _ _ _ _ _ _ rfl T.z_range (@pa_cons _ _ _ _ _ (@pe_int _ _ _ _) (@pa_nil _) (by rfl)) (by rfl)) (fun _ _ _ _ => (@pg_name _ _ (i:=0) _ (show (["_law_k","_law_script"]:List Str).Nodup by decide +kernel) rfl (Or.inl rfl) (Or.inr rfl))) (fun _ _ _ _ => (@pe_op _ _ _ _ _ _ _ _ op_mod (@pe_op _ _ _ _ _ _ _ _ op_fdivB (@pe_callB _ _ _ _ _ _ _ _ _ c_abs rfl T.z_abs bt_abs (@pa_cons _ _ _ _ _ (@pe_callO _ _ _ _ _ _ _ _ _ _ o_number hr rfl (@pa_cons _ _ _ _ _ (pv 1) (@pa_cons _ _ _ _ _ (@pe_op _ _ _ _ _ _ _ _ op_addAc (@pe_int _ _ _ _) (pv 0)) (@pa_nil _) (by rfl)) (by rfl)) (by decide) (by rfl) (by rfl)) (@pa_nil _) (by rfl)) (by decide) (by decide) (by rfl) (by rfl)) (@pe_int _ _ _ _)) (@pe_ix _ _ _ _ _ _ _ ix_LTc (@pe_lst _ _ _ _ (@pa_cons _ _ _ _ _ (@pe_int _ _ _ _) (@pa_cons _ _ _ _ _ (@pe_int _ _ _ _) (@pa_cons _ _ _ _ _ (@pe_op _ _ _ _ _ _ _ _ op_pow (@pe_int _ _ _ _) (@pe_int _ _ _ _)) (@pa_cons _ _ _ _ _ (@pe_int _ _ _ _) (@pa_nil _) (by rfl)) (by rfl)) (by rfl)) (by rfl))) (pv 0) (fun _ _ => rfl)))) (fun _ _ _ _ => (@pts_none _)) (by intro _; rfl)) (@pa_nil _) (by rfl)) (by decide) (by decide) (by rfl) (by rfl)) (by rfl) (by first | exact .inl rfl | exact .inr rfl | assumption)) (@pss_cons _ _ _ _ _ (@ps_setC _ _ _ _ _ _ _ _ _ _ _ _ _ _ (i:=7) _ _ _ sc_law.nd rfl (by first | exact Or.inl rfl | exact Or.inr rfl) (@comp_ck _ _ (sc:=defScope s_law) (N:=["_law_script","_law_here_here","_law_net_here","_law_pushes_here","_law_takings","_law_fallen","_law_some","_law_moments","_law_k"]) (tn:=["_law_moment"]) (names:=["_law_here_here"]) (is:=[1]) rfl rfl (by decide +kernel) (by decide +kernel) rfl (by decide +kernel) rfl (by decide +kernel) (by decide +kernel) (by decide +kernel)) rfl (@pi_list _ _ _ _ (pv 6)) (fun _ _ _ _ => (@pg_name _ _ (i:=0) _ (show (["_law_moment","_law_here_here"]:List Str).Nodup by decide +kernel) rfl (Or.inl rfl) (Or.inr rfl))) (fun _ _ _ _ => (@pe_callO _ _ _ _ _ _ _ _ _ _ o_low hr rfl (@pa_cons _ _ _ _ _ (pv 0) (@pa_cons _ _ _ _ _ (@pe_dget _ _ _ _ _ _ hr.u1 (pv 1) (@pe_str _ _ _ _) (fun _ _ => rfl)) (@pa_nil _) (by rfl)) (by rfl)) (by decide) (by rfl) (by rfl))) (fun _ _ _ _ => (@pts_none _)) (by intro _; rfl) (by rfl) (by first | exact .inl rfl | exact .inr rfl | assumption)) (@pss_cons _ _ _ _ _ (@ps_for _ _ _ _ _ _ _ _ PassesOwn.never rfl (@pi_range1 _ _ _ _ _ _ rfl T.z_range (@pa_cons _ _ _ _ _ (@pe_callB _ _ _ _ _ _ _ _ _ c_len rfl T.z_len bt_len (@pa_cons _ _ _ _ _ (pv 2) (@pa_nil _) (by rfl)) (by decide) (by decide) (by rfl) (by rfl)) (@pa_nil _) (by rfl)) (by rfl)) (@pg_name _ _ (i:=8) _ sc_law.nd rfl (by first | exact Or.inl rfl | exact Or.inr rfl) (by first | exact .inl rfl | exact .inr rfl | assumption)) (@pss_cons _ _ _ _ _ (@ps_if _ _ _ _ _ _ _ _ (@pt_not _ _ _ _ (@pt_val _ _ _ (@pe_callO _ _ _ _ _ _ _ _ _ _ o_run_right hr rfl (@pa_cons _ _ _ _ _ (pv 2) (@pa_cons _ _ _ _ _ (pv 3) (@pa_cons _ _ _ _ _ (pv 4) (@pa_cons _ _ _ _ _ (pv 8) (@pa_cons _ _ _ _ _ (pv 7) (@pa_cons _ _ _ _ _ (pv 5) (@pa_nil _) (by rfl)) (by rfl)) (by rfl)) (by rfl)) (by rfl)) (by rfl)) (by decide) (by rfl) (by rfl)) (by intro _; rfl))) (@pss_one _ _ _ (@ps_ret _ _ _ _ (@pe_bl _ _ _ _))) (@pss_nil _)) (@pss_one _ _ _ (@ps_if _ _ _ _ _ _ _ _ (@pt_cmpR _ _ _ _ _ _ _ _ (op_eqA hr.units) (@pe_op _ _ _ _ _ _ _ _ op_mod (pv 8) (@pe_int _ _ _ _)) (@pe_int _ _ _ _) (nomark _)) (@pss_one _ _ _ (@ps_if _ _ _ _ _ _ _ _ (@PW.pt _ _ _ (@pw_or _ _ _ _ _ _ _ (@pt_cmpR _ _ _ _ _ _ _ _ (op_neB hr.units) (@pe_callD _ _ _ _ _ _ _ _ _ _ _ o_standing_in hr rfl (@pa_cons _ _ _ _ _ (pv 2) (@pa_cons _ _ _ _ _ (@pe_lst _ _ _ _ (@pa_nil _)) (@pa_cons _ _ _ _ _ (pv 8) (@pa_cons _ _ _ _ _ (@pe_ix _ _ _ _ _ _ _ ix_LT (pv 7) (@pe_int _ _ _ _) (fun _ _ => rfl)) (@pa_nil _) (by rfl)) (by rfl)) (by rfl)) (by rfl)) (by decide) (by rfl) (by rfl)) (@pe_tup _ _ _ _ _ (@pa_cons _ _ _ _ _ (@pe_tup _ _ _ _ _ (@pa_cons _ _ _ _ _ (@pe_int _ _ _ _) (@pa_cons _ _ _ _ _ (@pe_int _ _ _ _) (@pa_nil _) (by rfl)) (by rfl))) (@pa_cons _ _ _ _ _ (@pe_tup _ _ _ _ _ (@pa_cons _ _ _ _ _ (@pe_int _ _ _ _) (@pa_cons _ _ _ _ _ (@pe_int _ _ _ _) (@pa_nil _) (by rfl)) (by rfl))) (@pa_nil _) (by rfl)) (by rfl))) (nomark _)) (@pw_or1 _ _ _ _ (@pt_cmpR _ _ _ _ _ _ _ _ (op_neA hr.units) (@pe_callD _ _ _ _ _ _ _ _ _ _ _ o_ending_of.d hr rfl (@pa_cons _ _ _ _ _ (pv 2) (@pa_cons _ _ _ _ _ (@pe_lst _ _ _ _ (@pa_nil _)) (@pa_cons _ _ _ _ _ (pv 8) (@pa_nil _) (by rfl)) (by rfl)) (by rfl)) (by decide) (by rfl) (by rfl)) (@pe_tup _ _ _ _ _ (@pa_cons _ _ _ _ _ (@pe_str _ _ _ _) (@pa_nil _) (by rfl))) (nomark _))))) (@pss_one _ _ _ (@ps_ret _ _ _ _ (@pe_bl _ _ _ _))) (@pss_nil _))) (@pss_nil _)))) (by intro _; rfl)) (@pss_one _ _ _ (@ps_ret _ _ _ _ (@pe_bl _ _ _ _)))))))))),?_⟩
    try dsimp only [cxK_nox,cxK_of]
    walk_at "go"
    refine ⟨a,ns,rfl,hS,h63,fun dd H1 U u rs ps ts ln lr lp lt hdd s1 hI hQ => ?_⟩
    have u0:=hI.u0
    have u1:=hI.u1
    have hU8:=hI.n8
    have hIl:=hI.len
    walk_at "go"
    refine ⟨dd,U,u,rs,ps,ts,ln,lr,lp,lt,rfl,hI,hQ,fun l H2 n hl s2 lq hnl hn => ?_⟩
    walk_at "go"
    refine ⟨dd,U,u,rs,ps,ts,ln,lr,lp,lt,rfl,hI,hQ.sm s2,fun pp H3 l1 l2 qs zs s3 hpp lq1 lq2 hql hzl hqs hzs => ?_⟩
    have s13:=(s1.trans s2).trans s3
    have hd3:=((hQ.sm s2).sm s3).d
    have hUn:∀ x ∈ names n,x ∈ U:=fun x hx => by
      rcases List.mem_append.mp hx with h | h
      . obtain ⟨r,hr,rfl⟩:=List.mem_map.mp h
        exact (hn r hr).1
      . obtain ⟨r,hr,rfl⟩:=List.mem_map.mp h
        exact (hn r hr).2.1
    have hnet:NetIn H3 l (kn n) u.toNat (10 ^ 31):=net_in (lq.sm RunQ.tk s3) (by omega) (fun r hr => (hn r hr).2.2.1.1) fun r hr => (hn r hr).2.2.2
    have hps:PsIn H3 l1 qs u.toNat (10 ^ 31):=⟨lq1,by omega,fun r hr => (hqs r hr).1⟩
    have hts:TsIn H3 (.ref l2) zs:=⟨.inr ⟨l2,rfl,lq2⟩,by omega,fun r hr => ((hzs r hr).sz u0 u1).mono (by decide)⟩
    have hS3:=s13.seq hS
    clear lq hQ lq1 lq2 s1 s2 s3 s13
    walk_at "go"
    refine ⟨l,n,l1,qs,.ref l2,zs,u.toNat,10 ^ 31,U,rfl,hnet,hps,hts,room_u u0 u1,by omega,hUn,fun d0 H4 F0 ys _ s4 dq fo bF srt nd mem => ?_⟩
    obtain ⟨kd,hkd,qd⟩:=dq
    have get:∀ y ∈ names n,∃ v,valV kd (Sum.inr y) = some v /\ OptQ H4 v (momOf F0 (Sum.inr y)):=fun y hy => by
      have e0:aget (ys.map fun y => ((Sum.inr y:Key),momOf F0 (Sum.inr y))) (Sum.inr y) = some (momOf F0 (Sum.inr y)):=aget_of (by
        rw [List.map_map]
        exact List.pairwise_map.mpr (nd.imp fun h e => h (Sum.inr.inj e))) (List.mem_map.mpr ⟨y,(mem y).mpr hy,rfl⟩)
      rcases qd.val (k:=Sum.inr y) with ⟨_,e2⟩ | ⟨v1,r1,e1,e2,f1⟩
      . rw [e0] at e2
        cases e2
      . rw [e0] at e2
        cases e2
        exact ⟨v1,e1,f1⟩
    replace hnet:=hnet.sm s4
    replace hps:=hps.sm s4
    replace hts:=hts.sm s4
    have hd4:=s4 _ _ hd3
    have hS4:=s4.seq hS3
    clear qd nd mem srt bF s4 hd3 hS3
    walk_at "go"
    refine ⟨4,rfl,by decide,by decide,?_⟩
    refine r_compR (n:=4) (by omega) (fun acc i ys G1 => Kp acc H4 G1 /\ ∃ ms:List Int,ys = ms.map V.int /\ ∀ m ∈ ms,0 <= m /\ m <= 10 ^ 31) ?_ ?_ ?_
    . intro acc h0
      exact ⟨Kp.new h0,[],rfl,fun _ h => nomatch h⟩
    . rintro acc i ys G1 h0 hi hyl hG1 ⟨kp,ms,rfl,hms⟩
      have s1':Same H4 G1:=fun b o h => kp _ _ (ne_of_none h h0) h
      walk_at "go"
      refine ⟨a,ns,_,rfl,s1'.seq hS4,by omega,by omega,fun rk => ?_⟩
      walk_at "go"
      generalize (if rk < 0 then -rk else rk) = z0
      refine r_pow31 ?_
      walk_at "go"
      refine r_lstK fun p3 hp3 => ?_
      have t1:=Same.new (o:=.lst [.int 20,.int 2000,.int 10000000000000000000000000000000,.int 40]) hp3
      have g3:=upd_same (H:=G1) (a:=p3) (o:=.lst [.int 20,.int 2000,.int 10000000000000000000000000000000,.int 40])
      generalize L2.upd G1 p3 (.lst [.int 20,.int 2000,.int 10000000000000000000000000000000,.int 40]) = G2 at t1 g3 ⊢
      walk_at "go"
      obtain ⟨z1,ez,hz0,hz1⟩:=at4 (x0:=20) (x1:=2000) (x2:=10000000000000000000000000000000) (x3:=40) (fun z => 0 < z /\ z <= 10 ^ 31) (by decide) (by decide) (by decide) (by decide) (0 + (i:Int)) (by omega) (by omega)
      refine r_ixl g3 ez ?_
      refine r_mod hz0 ?_
      have m0:=Int.emod_nonneg (z0.fdiv 8) (show z1 ≠ 0 by omega)
      have m1:=Int.emod_lt_of_pos (z0.fdiv 8) hz0
      generalize z0.fdiv 8 % z1 = mm at *
      refine c_next hi hyl (t1 _ _ hG1) ⟨(kp.trans t1.kp).trans Kp.upd,ms ++ [mm],by simp,fun x hx => ?_⟩
      rcases List.mem_append.mp hx with h | h
      . exact hms x h
      . rw [List.mem_singleton.mp h]
        exact ⟨m0,by omega⟩
    rintro lo yo G1 h1 hG1 hyo ⟨kp,ms0,rfl,hms0⟩
    have sg1:Same H4 G1:=fun b o h => kp _ _ (ne_of_none h h1) h
    rw [List.length_map] at hyo
    walk_at "go"
    refine r_sortL hG1 (by omega) fun ls zs2 G2 _ sg2 hls hperm hris => ?_
    have hzl2:=hperm.length_eq
    have sg12:=sg1.trans sg2
    have hd5:=sg12 _ _ hd4
    walk_at "go"
    refine r_listK (SqL.of hls) ?_
    refine r_compL (xs:=zs2.map V.int) (by rw [List.length_map]; omega) (fun acc i ys G3 => Kp acc G2 G3 /\ Paired (FrQ G3) ys ((zs2.take i).map fun z => Rat.divInt z u)) (fun acc h0 => ⟨Kp.new h0,.nil⟩) ?_ ?_ ?_
    . rintro acc i ys G3 h0 _ ⟨kp,_⟩
      exact SqL.of (kp _ _ (ne_of_none hls h0) hls)
    . rintro acc i ys G3 x h0 hx hyl hG3 ⟨kp,pm⟩
      obtain ⟨z,hz,rfl⟩:∃ z,zs2[i]? = some z /\ x = V.int z:=by
        rw [List.getElem?_map] at hx
        cases e:zs2[i]? with
        | none => rw [e] at hx; cases hx
        | some p => rw [e] at hx; cases hx; exact ⟨p,rfl,rfl⟩
      have hi:i < zs2.length:=(List.getElem?_eq_some_iff.mp hz).1
      obtain ⟨m0,m1⟩:=hms0 z (hperm.mem_iff.mp (List.mem_of_getElem? hz))
      walk_at "go"
      refine r_dGs (.inl (kp _ _ (ne_of_none hd5 h0) hd5)) here_unit ?_
      walk_at "go"
      refine ⟨z,u,rfl,u0,sm_u (by omega) (by omega),sm_u (by omega) (by omega),fun q1 hq1 => ?_⟩
      have f1:FrQ (L2.upd G3 q1 (.tup [.int (lowT z u),.int (lowB z u)])) (.ref q1) (Rat.divInt z u):=FrQ.low (by omega) upd_same
      have t2:=Same.new (o:=.tup [.int (lowT z u),.int (lowB z u)]) hq1
      generalize L2.upd G3 q1 (.tup [.int (lowT z u),.int (lowB z u)]) = G4 at f1 t2 ⊢
      have tk:=TK.lst (o:=.lst (ys ++ [.ref q1])) (t2 _ _ hG3)
      refine c_next (by rw [List.length_map]; exact hi) hyl (t2 _ _ hG3) ⟨(kp.trans t2.kp).trans Kp.upd,?_⟩
      rw [List.take_succ_eq_append_getElem hi,List.map_append,(List.getElem?_eq_some_iff.mp hz).2]
      exact Pd.snoc (Pd.imp pm fun v b f => (f.tk t2.tk).tk tk) (f1.tk tk)
    rintro lm ym G3 h3 hlm hym ⟨kp3,pm⟩
    have sg3:Same G2 G3:=fun b o h => kp3 _ _ (ne_of_none h h3) h
    rw [List.length_map,List.take_length] at pm
    rw [List.length_map] at hym
    have sg:=sg12.trans sg3
    replace hnet:=hnet.sm sg
    replace hps:=hps.sm sg
    replace hts:=hts.sm sg
    have hkd3:=sg _ _ hkd
    have get3:∀ y ∈ names n,∃ v,valV kd (Sum.inr y) = some v /\ OptQ G3 v (momOf F0 (Sum.inr y)):=fun y hy => let ⟨v,e,o⟩:=get y hy; ⟨v,e,o.tk sg.tk⟩
    have hmr:(zs2.map fun z => Rat.divInt z u).Pairwise (· <= ·):=List.pairwise_map.mpr (hris.imp fun {x y} h => div_up u0 h)
    have hmz:∀ m ∈ zs2.map fun z => Rat.divInt z u,Sz 400 m:=fun m hm => by
      obtain ⟨z,hz,rfl⟩:=List.mem_map.mp hm
      obtain ⟨m0,m1⟩:=hms0 z (hperm.mem_iff.mp hz)
      exact (uq_of u0 m0 m1).sz u0 u1
    generalize (zs2.map fun z => Rat.divInt z u) = ms at pm hmr hmz
    obtain ⟨vn,hvn,pvn⟩:=id hnet.lq
    have hvl:vn.length = n.length:=(Paired.length pvn).trans (by simp [kn])
    clear get hkd sg sg12 sg1 sg2 sg3 kp kp3 h1 h3 hG1 hls hd5 hd4 hS4
    walk_at "go"
    refine r_rng1K (by omega) (by omega) ?_
    rw [Int.toNat_natCast]
    refine r_forRo (n:=vn.length) (fun i σ G => ∃ (o8:Option V),σ = [some (.ref a),some (.ref dd),some (.ref l),some (.ref l1),some (.ref l2),some (.ref d0),some (.ref ls),some (.ref lm),o8] /\ Same G3 G) ⟨_,rfl,Same.refl _⟩ ?_ ?_
    . intro P' rt' bk' hP'
      rintro i σ G hi ⟨o8,rfl,sG⟩
      have hin:i < n.length:=by omega
      obtain ⟨r,hri⟩:∃ r,n[i]? = some r:=⟨_,List.getElem?_eq_getElem hin⟩
      have hrn:=hn r (List.mem_of_getElem? hri)
      walk_at "go"
      refine ⟨l,n,l1,qs,l2,zs,u.toNat,10 ^ 31,U,i,r,lm,ym,ms,d0,kd,F0,by rw [Int.zero_add],hnet.sm sG,hps.sm sG,hts.sm sG,room_u u0 u1,by omega,hUn,hri,sz_u u0 u1,(fun x hx => (hzs x hx).sz u0 u1),sG _ _ hlm,Pd.imp pm (fun v b f => f.tk sG.tk),hmr,hmz,sG _ _ hkd3,(fun y hy => let ⟨v,e,o⟩:=get3 y hy; ⟨v,e,o.tk sG.tk⟩),fo,fun G5 t5 => ?_⟩
      have sG5:=sG.trans t5
      walk_at "go"
      refine i_d (fun c4 => ?_) (fun c4 => ?_)
      . obtain ⟨m3,hm3⟩:∃ m3,ym[3]? = some m3:=⟨_,List.getElem?_eq_getElem (by omega)⟩
        obtain ⟨mm,hmm,fmm⟩:=Paired.at pm hm3
        have zmm:=hmz mm (List.mem_of_getElem? hmm)
        walk_at "go"
        refine r_lstK fun le hle => ?_
        have se:=Same.new (o:=.lst []) hle
        have he:=upd_same (H:=G5) (a:=le) (o:=.lst [])
        generalize L2.upd G5 le (.lst []) = G6 at se he ⊢
        have sG6:=sG5.trans se
        walk_at "go"
        refine r_ixl (sG6 _ _ hlm) (show atI ym ((3:Nat):Int) = some m3 from atI_nat hm3) ?_
        walk_at "go"
        refine ⟨l,n,le,[],.non,[],u.toNat,10 ^ 31,U,i,r,m3,mm,by rw [Int.zero_add]; rfl,hnet.sm sG6,⟨⟨[],he,.nil⟩,by decide,(fun _ h => nomatch h)⟩,⟨.inl ⟨rfl,rfl⟩,by decide,(fun _ h => nomatch h)⟩,room_u u0 u1,by omega,hUn,hri,fmm.tk sG6.tk,zmm,sz_u u0 u1,(fun _ h => nomatch h),fun v7 G7 F7 t7 fo7 _ lv7 => ?_⟩
        rw [mom_nil fo7,mom_nil fo7,show tkOf [] i = none from rfl,stn_whole] at lv7
        have sG7:=sG6.trans t7
        walk_at "go"
        refine r_tupK fun p1 hp1 => ?_
        have f1:FrQ (L2.upd G7 p1 (.tup [.int 0,.int 1])) (.ref p1) 0:=⟨p1,rfl,upd_same⟩
        have t2:=Same.new (o:=.tup [.int 0,.int 1]) hp1
        generalize L2.upd G7 p1 (.tup [.int 0,.int 1]) = H2 at f1 t2 ⊢
        walk_at "go"
        refine r_tupK fun p2 hp2 => ?_
        have f2:FrQ (L2.upd H2 p2 (.tup [.int 1,.int 1])) (.ref p2) 1:=⟨p2,rfl,upd_same⟩
        have t3:=Same.new (o:=.tup [.int 1,.int 1]) hp2
        generalize L2.upd H2 p2 (.tup [.int 1,.int 1]) = H3' at f2 t3 ⊢
        walk_at "go"
        refine r_tupK fun p3 hp3 => ?_
        have t4:=Same.new (o:=.tup [.ref p1,.ref p2]) hp3
        have l3:LeftQ (L2.upd H3' p3 (.tup [.ref p1,.ref p2])) (.ref p3) (some (0,1)):=⟨p3,_,_,rfl,upd_same,(f1.tk t3.tk).tk t4.tk,f2.tk t4.tk⟩
        have s4:=t2.trans (t3.trans t4)
        generalize L2.upd H3' p3 (.tup [.ref p1,.ref p2]) = G8 at l3 s4 ⊢
        refine n_left (lv7.tk s4.tk) l3 ?_
        have sG8:=sG7.trans s4
        walk_at "go"
        refine r_lstK fun le2 hle2 => ?_
        have se2:=Same.new (o:=.lst []) hle2
        have he2:=upd_same (H:=G8) (a:=le2) (o:=.lst [])
        generalize L2.upd G8 le2 (.lst []) = G9 at se2 he2 ⊢
        have sG9:=sG8.trans se2
        walk_at "go"
        refine ⟨l,n,le2,[],.non,[],u.toNat,10 ^ 31,U,i,r,by rw [Int.zero_add]; rfl,hnet.sm sG9,⟨⟨[],he2,.nil⟩,by decide,(fun _ h => nomatch h)⟩,⟨.inl ⟨rfl,rfl⟩,by decide,(fun _ h => nomatch h)⟩,room_u u0 u1,by omega,hUn,hri,sz_u u0 u1,(fun _ h => nomatch h),fun v10 G10 F10 t10 fo10 _ ev10 => ?_⟩
        rw [mom_nil fo10,mom_nil fo10,show tkOf [] i = none from rfl] at ev10
        walk_at "go"
        refine r_tupK fun p11 hp11 => ?_
        refine n_end (e:=.stands) ((show EndQ G10 v10 .stands from ev10).tk (TK.new hp11)) ⟨p11,rfl,upd_same⟩ ?_
        walk_at "go"
        exact hP' _ _ _ ⟨_,rfl,(sG9.trans t10).trans (Same.new hp11)⟩
      . walk_at "go"
        exact hP' _ _ _ ⟨_,rfl,sG5⟩
    rintro σ G ⟨o8,rfl,sG⟩
    walk_at "go"
    exact q _
end
set_option maxHeartbeats 0 in
theorem all_mk {l:PySem.W.OpenLaw} {w:World} {K:PySem.W.Frag} {h:Heap} {mg:Str -> Option Value} {fa:Addr} (X:K.In h) (G:h.Ns mainGlobals mg) (hfa:mg "law" = some (.ref fa)) {f0:Addr} {oc0:Value} {od0 an0:Option Addr} {sl0:Array (Option Value)} {kV0 dc0 pm0 cd0 ct0:Value} {f1:Addr} {oc1:Value} {od1 an1:Option Addr} {sl1:Array (Option Value)} {kV1 dc1 pm1 cd1 ct1:Value} {f2:Addr} {oc2:Value} {od2 an2:Option Addr} {sl2:Array (Option Value)} {kV2 dc2 pm2 cd2 ct2:Value} {dT2:Addr} {dO2:Obj} {dN2:Nat} {dK2:Tok} {f3:Addr} {oc3:Value} {od3 an3:Option Addr} {sl3:Array (Option Value)} {kV3 dc3 pm3 cd3 ct3:Value} {f4:Addr} {oc4:Value} {od4 an4:Option Addr} {sl4:Array (Option Value)} {kV4 dc4 pm4 cd4 ct4:Value} {f5:Addr} {oc5:Value} {od5 an5:Option Addr} {sl5:Array (Option Value)} {kV5 dc5 pm5 cd5 ct5:Value} {f6:Addr} {oc6:Value} {od6 an6:Option Addr} {sl6:Array (Option Value)} {kV6 dc6 pm6 cd6 ct6:Value} {f7:Addr} {oc7:Value} {od7 an7:Option Addr} {sl7:Array (Option Value)} {kV7 dc7 pm7 cd7 ct7:Value} {f8:Addr} {oc8:Value} {od8 an8:Option Addr} {sl8:Array (Option Value)} {kV8 dc8 pm8 cd8 ct8:Value} {f9:Addr} {oc9:Value} {od9 an9:Option Addr} {sl9:Array (Option Value)} {kV9 dc9 pm9 cd9 ct9:Value} {f10:Addr} {oc10:Value} {od10 an10:Option Addr} {sl10:Array (Option Value)} {kV10 dc10 pm10 cd10 ct10:Value} {f11:Addr} {oc11:Value} {od11 an11:Option Addr} {sl11:Array (Option Value)} {kV11 dc11 pm11 cd11 ct11:Value} {f12:Addr} {oc12:Value} {od12 an12:Option Addr} {sl12:Array (Option Value)} {kV12 dc12 pm12 cd12 ct12:Value} {f13:Addr} {oc13:Value} {od13 an13:Option Addr} {sl13:Array (Option Value)} {kV13 dc13 pm13 cd13 ct13:Value} {dT13:Addr} {dO13:Obj} {dN13:Nat} {f14:Addr} {oc14:Value} {od14 an14:Option Addr} {sl14:Array (Option Value)} {kV14 dc14 pm14 cd14 ct14:Value} {dT14:Addr} {dO14:Obj} {dN14:Nat} {f15:Addr} {oc15:Value} {od15 an15:Option Addr} {sl15:Array (Option Value)} {kV15 dc15 pm15 cd15 ct15:Value} {f16:Addr} {oc16:Value} {od16 an16:Option Addr} {sl16:Array (Option Value)} {kV16 dc16 pm16 cd16 ct16:Value} {f17:Addr} {oc17:Value} {od17 an17:Option Addr} {sl17:Array (Option Value)} {kV17 dc17 pm17 cd17 ct17:Value} {dT17:Addr} {dO17:Obj} {dN17:Nat} {f18:Addr} {oc18:Value} {od18 an18:Option Addr} {sl18:Array (Option Value)} {kV18 dc18 pm18 cd18 ct18:Value} {f19:Addr} {oc19:Value} {od19 an19:Option Addr} {sl19:Array (Option Value)} {kV19 dc19 pm19 cd19 ct19:Value} {f20:Addr} {oc20:Value} {od20 an20:Option Addr} {sl20:Array (Option Value)} {kV20 dc20 pm20 cd20 ct20:Value} {f21:Addr} {oc21:Value} {od21 an21:Option Addr} {sl21:Array (Option Value)} {kV21 dc21 pm21 cd21 ct21:Value} {f22:Addr} {oc22:Value} {od22 an22:Option Addr} {sl22:Array (Option Value)} {kV22 dc22 pm22 cd22 ct22:Value} {dT22:Addr} {dO22:Obj} {dN22:Nat} {f23:Addr} {oc23:Value} {od23 an23:Option Addr} {sl23:Array (Option Value)} {kV23 dc23 pm23 cd23 ct23:Value} {f24:Addr} {oc24:Value} {od24 an24:Option Addr} {sl24:Array (Option Value)} {kV24 dc24 pm24 cd24 ct24:Value} {f25:Addr} {oc25:Value} {od25 an25:Option Addr} {sl25:Array (Option Value)} {kV25 dc25 pm25 cd25 ct25:Value} {f26:Addr} {oc26:Value} {od26 an26:Option Addr} {sl26:Array (Option Value)} {kV26 dc26 pm26 cd26 ct26:Value} {f27:Addr} {oc27:Value} {od27 an27:Option Addr} {sl27:Array (Option Value)} {kV27 dc27 pm27 cd27 ct27:Value} {f28:Addr} {oc28:Value} {od28 an28:Option Addr} {sl28:Array (Option Value)} {kV28 dc28 pm28 cd28 ct28:Value} {f29:Addr} {oc29:Value} {od29 an29:Option Addr} {sl29:Array (Option Value)} {kV29 dc29 pm29 cd29 ct29:Value} {f30:Addr} {oc30:Value} {od30 an30:Option Addr} {sl30:Array (Option Value)} {kV30 dc30 pm30 cd30 ct30:Value} {f31:Addr} {oc31:Value} {od31 an31:Option Addr} {sl31:Array (Option Value)} {kV31 dc31 pm31 cd31 ct31:Value} {f32:Addr} {oc32:Value} {od32 an32:Option Addr} {sl32:Array (Option Value)} {kV32 dc32 pm32 cd32 ct32:Value} {f33:Addr} {oc33:Value} {od33 an33:Option Addr} {sl33:Array (Option Value)} {kV33 dc33 pm33 cd33 ct33:Value} {f34:Addr} {oc34:Value} {od34 an34:Option Addr} {sl34:Array (Option Value)} {kV34 dc34 pm34 cd34 ct34:Value} {f35:Addr} {oc35:Value} {od35 an35:Option Addr} {sl35:Array (Option Value)} {kV35 dc35 pm35 cd35 ct35:Value} {f36:Addr} {oc36:Value} {od36 an36:Option Addr} {sl36:Array (Option Value)} {kV36 dc36 pm36 cd36 ct36:Value} {f37:Addr} {oc37:Value} {od37 an37:Option Addr} {sl37:Array (Option Value)} {kV37 dc37 pm37 cd37 ct37:Value} {f38:Addr} {oc38:Value} {od38 an38:Option Addr} {sl38:Array (Option Value)} {kV38 dc38 pm38 cd38 ct38:Value}
    (a0:PySem.W.nsIn K mainGlobals "is_whole" = some (some (.ref f0))) (l0:K.lookup f0 = some ⟨oc0,od0,.func (PySem.W.fnOf "is_whole" "is_whole" (defArgs s_is_whole) (defBody s_is_whole) (defScope s_is_whole) .none kV0 dc0 pm0 an0 cd0 ct0),sl0⟩) (c0:PySem.W.codeIn K cd0 "is_whole" = true) (k0:PySem.W.keepIn K (.ref f0) = true)
    (a1:PySem.W.nsIn K mainGlobals "common_divisor" = some (some (.ref f1))) (l1:K.lookup f1 = some ⟨oc1,od1,.func (PySem.W.fnOf "common_divisor" "common_divisor" (defArgs s_common_divisor) (defBody s_common_divisor) (defScope s_common_divisor) .none kV1 dc1 pm1 an1 cd1 ct1),sl1⟩) (c1:PySem.W.codeIn K cd1 "common_divisor" = true) (k1:PySem.W.keepIn K (.ref f1) = true)
    (a2:PySem.W.nsIn K mainGlobals "fraction" = some (some (.ref f2))) (l2:K.lookup f2 = some ⟨oc2,od2,.func (PySem.W.fnOf "fraction" "fraction" (defArgs s_fraction) (defBody s_fraction) (defScope s_fraction) (.ref dT2) kV2 dc2 pm2 an2 cd2 ct2),sl2⟩) (c2:PySem.W.codeIn K cd2 "fraction" = true) (k2:PySem.W.keepIn K (.ref f2) = true)
    (t2:K.lookup dT2 = some dO2) (u2:dO2.data = .seq #[.int 1 dK2] dN2)
    (a3:PySem.W.nsIn K mainGlobals "added" = some (some (.ref f3))) (l3:K.lookup f3 = some ⟨oc3,od3,.func (PySem.W.fnOf "added" "added" (defArgs s_added) (defBody s_added) (defScope s_added) .none kV3 dc3 pm3 an3 cd3 ct3),sl3⟩) (c3:PySem.W.codeIn K cd3 "added" = true) (k3:PySem.W.keepIn K (.ref f3) = true)
    (a4:PySem.W.nsIn K mainGlobals "lessened" = some (some (.ref f4))) (l4:K.lookup f4 = some ⟨oc4,od4,.func (PySem.W.fnOf "lessened" "lessened" (defArgs s_lessened) (defBody s_lessened) (defScope s_lessened) .none kV4 dc4 pm4 an4 cd4 ct4),sl4⟩) (c4:PySem.W.codeIn K cd4 "lessened" = true) (k4:PySem.W.keepIn K (.ref f4) = true)
    (a5:PySem.W.nsIn K mainGlobals "timed" = some (some (.ref f5))) (l5:K.lookup f5 = some ⟨oc5,od5,.func (PySem.W.fnOf "timed" "timed" (defArgs s_timed) (defBody s_timed) (defScope s_timed) .none kV5 dc5 pm5 an5 cd5 ct5),sl5⟩) (c5:PySem.W.codeIn K cd5 "timed" = true) (k5:PySem.W.keepIn K (.ref f5) = true)
    (a6:PySem.W.nsIn K mainGlobals "divided" = some (some (.ref f6))) (l6:K.lookup f6 = some ⟨oc6,od6,.func (PySem.W.fnOf "divided" "divided" (defArgs s_divided) (defBody s_divided) (defScope s_divided) .none kV6 dc6 pm6 an6 cd6 ct6),sl6⟩) (c6:PySem.W.codeIn K cd6 "divided" = true) (k6:PySem.W.keepIn K (.ref f6) = true)
    (a7:PySem.W.nsIn K mainGlobals "is_less" = some (some (.ref f7))) (l7:K.lookup f7 = some ⟨oc7,od7,.func (PySem.W.fnOf "is_less" "is_less" (defArgs s_is_less) (defBody s_is_less) (defScope s_is_less) .none kV7 dc7 pm7 an7 cd7 ct7),sl7⟩) (c7:PySem.W.codeIn K cd7 "is_less" = true) (k7:PySem.W.keepIn K (.ref f7) = true)
    (a8:PySem.W.nsIn K mainGlobals "posts_of" = some (some (.ref f8))) (l8:K.lookup f8 = some ⟨oc8,od8,.func (PySem.W.fnOf "posts_of" "posts_of" (defArgs s_posts_of) (defBody s_posts_of) (defScope s_posts_of) .none kV8 dc8 pm8 an8 cd8 ct8),sl8⟩) (c8:PySem.W.codeIn K cd8 "posts_of" = true) (k8:PySem.W.keepIn K (.ref f8) = true)
    (a9:PySem.W.nsIn K mainGlobals "runs_beside" = some (some (.ref f9))) (l9:K.lookup f9 = some ⟨oc9,od9,.func (PySem.W.fnOf "runs_beside" "runs_beside" (defArgs s_runs_beside) (defBody s_runs_beside) (defScope s_runs_beside) .none kV9 dc9 pm9 an9 cd9 ct9),sl9⟩) (c9:PySem.W.codeIn K cd9 "runs_beside" = true) (k9:PySem.W.keepIn K (.ref f9) = true)
    (a10:PySem.W.nsIn K mainGlobals "least_moments" = some (some (.ref f10))) (l10:K.lookup f10 = some ⟨oc10,od10,.func (PySem.W.fnOf "least_moments" "least_moments" (defArgs s_least_moments) (defBody s_least_moments) (defScope s_least_moments) .none kV10 dc10 pm10 an10 cd10 ct10),sl10⟩) (c10:PySem.W.codeIn K cd10 "least_moments" = true) (k10:PySem.W.keepIn K (.ref f10) = true)
    (a11:PySem.W.nsIn K mainGlobals "is_out" = some (some (.ref f11))) (l11:K.lookup f11 = some ⟨oc11,od11,.func (PySem.W.fnOf "is_out" "is_out" (defArgs s_is_out) (defBody s_is_out) (defScope s_is_out) .none kV11 dc11 pm11 an11 cd11 ct11),sl11⟩) (c11:PySem.W.codeIn K cd11 "is_out" = true) (k11:PySem.W.keepIn K (.ref f11) = true)
    (a12:PySem.W.nsIn K mainGlobals "earliest_of" = some (some (.ref f12))) (l12:K.lookup f12 = some ⟨oc12,od12,.func (PySem.W.fnOf "earliest_of" "earliest_of" (defArgs s_earliest_of) (defBody s_earliest_of) (defScope s_earliest_of) .none kV12 dc12 pm12 an12 cd12 ct12),sl12⟩) (c12:PySem.W.codeIn K cd12 "earliest_of" = true) (k12:PySem.W.keepIn K (.ref f12) = true)
    (a13:PySem.W.nsIn K mainGlobals "falls_of" = some (some (.ref f13))) (l13:K.lookup f13 = some ⟨oc13,od13,.func (PySem.W.fnOf "falls_of" "falls_of" (defArgs s_falls_of) (defBody s_falls_of) (defScope s_falls_of) (.ref dT13) kV13 dc13 pm13 an13 cd13 ct13),sl13⟩) (c13:PySem.W.codeIn K cd13 "falls_of" = true) (k13:PySem.W.keepIn K (.ref f13) = true)
    (t13:K.lookup dT13 = some dO13) (u13:dO13.data = .seq #[.none] dN13)
    (a14:PySem.W.nsIn K mainGlobals "fall_moments" = some (some (.ref f14))) (l14:K.lookup f14 = some ⟨oc14,od14,.func (PySem.W.fnOf "fall_moments" "fall_moments" (defArgs s_fall_moments) (defBody s_fall_moments) (defScope s_fall_moments) (.ref dT14) kV14 dc14 pm14 an14 cd14 ct14),sl14⟩) (c14:PySem.W.codeIn K cd14 "fall_moments" = true) (k14:PySem.W.keepIn K (.ref f14) = true)
    (t14:K.lookup dT14 = some dO14) (u14:dO14.data = .seq #[.none] dN14)
    (a15:PySem.W.nsIn K mainGlobals "share_passed" = some (some (.ref f15))) (l15:K.lookup f15 = some ⟨oc15,od15,.func (PySem.W.fnOf "share_passed" "share_passed" (defArgs s_share_passed) (defBody s_share_passed) (defScope s_share_passed) .none kV15 dc15 pm15 an15 cd15 ct15),sl15⟩) (c15:PySem.W.codeIn K cd15 "share_passed" = true) (k15:PySem.W.keepIn K (.ref f15) = true)
    (a16:PySem.W.nsIn K mainGlobals "standing_by" = some (some (.ref f16))) (l16:K.lookup f16 = some ⟨oc16,od16,.func (PySem.W.fnOf "standing_by" "standing_by" (defArgs s_standing_by) (defBody s_standing_by) (defScope s_standing_by) .none kV16 dc16 pm16 an16 cd16 ct16),sl16⟩) (c16:PySem.W.codeIn K cd16 "standing_by" = true) (k16:PySem.W.keepIn K (.ref f16) = true)
    (a17:PySem.W.nsIn K mainGlobals "standing_in" = some (some (.ref f17))) (l17:K.lookup f17 = some ⟨oc17,od17,.func (PySem.W.fnOf "standing_in" "standing_in" (defArgs s_standing_in) (defBody s_standing_in) (defScope s_standing_in) (.ref dT17) kV17 dc17 pm17 an17 cd17 ct17),sl17⟩) (c17:PySem.W.codeIn K cd17 "standing_in" = true) (k17:PySem.W.keepIn K (.ref f17) = true)
    (t17:K.lookup dT17 = some dO17) (u17:dO17.data = .seq #[.none] dN17)
    (a18:PySem.W.nsIn K mainGlobals "is_swept" = some (some (.ref f18))) (l18:K.lookup f18 = some ⟨oc18,od18,.func (PySem.W.fnOf "is_swept" "is_swept" (defArgs s_is_swept) (defBody s_is_swept) (defScope s_is_swept) .none kV18 dc18 pm18 an18 cd18 ct18),sl18⟩) (c18:PySem.W.codeIn K cd18 "is_swept" = true) (k18:PySem.W.keepIn K (.ref f18) = true)
    (a19:PySem.W.nsIn K mainGlobals "ending_by_falls" = some (some (.ref f19))) (l19:K.lookup f19 = some ⟨oc19,od19,.func (PySem.W.fnOf "ending_by_falls" "ending_by_falls" (defArgs s_ending_by_falls) (defBody s_ending_by_falls) (defScope s_ending_by_falls) .none kV19 dc19 pm19 an19 cd19 ct19),sl19⟩) (c19:PySem.W.codeIn K cd19 "ending_by_falls" = true) (k19:PySem.W.keepIn K (.ref f19) = true)
    (a20:PySem.W.nsIn K mainGlobals "moment_of" = some (some (.ref f20))) (l20:K.lookup f20 = some ⟨oc20,od20,.func (PySem.W.fnOf "moment_of" "moment_of" (defArgs s_moment_of) (defBody s_moment_of) (defScope s_moment_of) .none kV20 dc20 pm20 an20 cd20 ct20),sl20⟩) (c20:PySem.W.codeIn K cd20 "moment_of" = true) (k20:PySem.W.keepIn K (.ref f20) = true)
    (a21:PySem.W.nsIn K mainGlobals "ending_by" = some (some (.ref f21))) (l21:K.lookup f21 = some ⟨oc21,od21,.func (PySem.W.fnOf "ending_by" "ending_by" (defArgs s_ending_by) (defBody s_ending_by) (defScope s_ending_by) .none kV21 dc21 pm21 an21 cd21 ct21),sl21⟩) (c21:PySem.W.codeIn K cd21 "ending_by" = true) (k21:PySem.W.keepIn K (.ref f21) = true)
    (a22:PySem.W.nsIn K mainGlobals "ending_of" = some (some (.ref f22))) (l22:K.lookup f22 = some ⟨oc22,od22,.func (PySem.W.fnOf "ending_of" "ending_of" (defArgs s_ending_of) (defBody s_ending_of) (defScope s_ending_of) (.ref dT22) kV22 dc22 pm22 an22 cd22 ct22),sl22⟩) (c22:PySem.W.codeIn K cd22 "ending_of" = true) (k22:PySem.W.keepIn K (.ref f22) = true)
    (t22:K.lookup dT22 = some dO22) (u22:dO22.data = .seq #[.none] dN22)
    (a23:PySem.W.nsIn K mainGlobals "_law_cell_at" = some (some (.ref f23))) (l23:K.lookup f23 = some ⟨oc23,od23,.func (PySem.W.fnOf "_law_cell_at" "_law_cell_at" (defArgs s_cell_at) (defBody s_cell_at) (defScope s_cell_at) .none kV23 dc23 pm23 an23 cd23 ct23),sl23⟩) (c23:PySem.W.codeIn K cd23 "_law_cell_at" = true) (k23:PySem.W.keepIn K (.ref f23) = true)
    (a24:PySem.W.nsIn K mainGlobals "_law_mixed" = some (some (.ref f24))) (l24:K.lookup f24 = some ⟨oc24,od24,.func (PySem.W.fnOf "_law_mixed" "_law_mixed" (defArgs s_mixed) (defBody s_mixed) (defScope s_mixed) .none kV24 dc24 pm24 an24 cd24 ct24),sl24⟩) (c24:PySem.W.codeIn K cd24 "_law_mixed" = true) (k24:PySem.W.keepIn K (.ref f24) = true)
    (a25:PySem.W.nsIn K mainGlobals "_law_number" = some (some (.ref f25))) (l25:K.lookup f25 = some ⟨oc25,od25,.func (PySem.W.fnOf "_law_number" "_law_number" (defArgs s_number) (defBody s_number) (defScope s_number) .none kV25 dc25 pm25 an25 cd25 ct25),sl25⟩) (c25:PySem.W.codeIn K cd25 "_law_number" = true) (k25:PySem.W.keepIn K (.ref f25) = true)
    (a26:PySem.W.nsIn K mainGlobals "_law_low" = some (some (.ref f26))) (l26:K.lookup f26 = some ⟨oc26,od26,.func (PySem.W.fnOf "_law_low" "_law_low" (defArgs s_low) (defBody s_low) (defScope s_low) .none kV26 dc26 pm26 an26 cd26 ct26),sl26⟩) (c26:PySem.W.codeIn K cd26 "_law_low" = true) (k26:PySem.W.keepIn K (.ref f26) = true)
    (a27:PySem.W.nsIn K mainGlobals "_law_posts" = some (some (.ref f27))) (l27:K.lookup f27 = some ⟨oc27,od27,.func (PySem.W.fnOf "_law_posts" "_law_posts" (defArgs s_posts) (defBody s_posts) (defScope s_posts) .none kV27 dc27 pm27 an27 cd27 ct27),sl27⟩) (c27:PySem.W.codeIn K cd27 "_law_posts" = true) (k27:PySem.W.keepIn K (.ref f27) = true)
    (a28:PySem.W.nsIn K mainGlobals "_law_time" = some (some (.ref f28))) (l28:K.lookup f28 = some ⟨oc28,od28,.func (PySem.W.fnOf "_law_time" "_law_time" (defArgs s_time) (defBody s_time) (defScope s_time) .none kV28 dc28 pm28 an28 cd28 ct28),sl28⟩) (c28:PySem.W.codeIn K cd28 "_law_time" = true) (k28:PySem.W.keepIn K (.ref f28) = true)
    (a29:PySem.W.nsIn K mainGlobals "_law_here" = some (some (.ref f29))) (l29:K.lookup f29 = some ⟨oc29,od29,.func (PySem.W.fnOf "_law_here" "_law_here" (defArgs s_here) (defBody s_here) (defScope s_here) .none kV29 dc29 pm29 an29 cd29 ct29),sl29⟩) (c29:PySem.W.codeIn K cd29 "_law_here" = true) (k29:PySem.W.keepIn K (.ref f29) = true)
    (a30:PySem.W.nsIn K mainGlobals "_law_net" = some (some (.ref f30))) (l30:K.lookup f30 = some ⟨oc30,od30,.func (PySem.W.fnOf "_law_net" "_law_net" (defArgs s_net) (defBody s_net) (defScope s_net) .none kV30 dc30 pm30 an30 cd30 ct30),sl30⟩) (c30:PySem.W.codeIn K cd30 "_law_net" = true) (k30:PySem.W.keepIn K (.ref f30) = true)
    (a31:PySem.W.nsIn K mainGlobals "_law_pushes" = some (some (.ref f31))) (l31:K.lookup f31 = some ⟨oc31,od31,.func (PySem.W.fnOf "_law_pushes" "_law_pushes" (defArgs s_pushes) (defBody s_pushes) (defScope s_pushes) .none kV31 dc31 pm31 an31 cd31 ct31),sl31⟩) (c31:PySem.W.codeIn K cd31 "_law_pushes" = true) (k31:PySem.W.keepIn K (.ref f31) = true)
    (a32:PySem.W.nsIn K mainGlobals "_law_handed" = some (some (.ref f32))) (l32:K.lookup f32 = some ⟨oc32,od32,.func (PySem.W.fnOf "_law_handed" "_law_handed" (defArgs s_handed) (defBody s_handed) (defScope s_handed) .none kV32 dc32 pm32 an32 cd32 ct32),sl32⟩) (c32:PySem.W.codeIn K cd32 "_law_handed" = true) (k32:PySem.W.keepIn K (.ref f32) = true)
    (a33:PySem.W.nsIn K mainGlobals "_law_less" = some (some (.ref f33))) (l33:K.lookup f33 = some ⟨oc33,od33,.func (PySem.W.fnOf "_law_less" "_law_less" (defArgs s_less) (defBody s_less) (defScope s_less) .none kV33 dc33 pm33 an33 cd33 ct33),sl33⟩) (c33:PySem.W.codeIn K cd33 "_law_less" = true) (k33:PySem.W.keepIn K (.ref f33) = true)
    (a34:PySem.W.nsIn K mainGlobals "_law_end_at" = some (some (.ref f34))) (l34:K.lookup f34 = some ⟨oc34,od34,.func (PySem.W.fnOf "_law_end_at" "_law_end_at" (defArgs s_end_at) (defBody s_end_at) (defScope s_end_at) .none kV34 dc34 pm34 an34 cd34 ct34),sl34⟩) (c34:PySem.W.codeIn K cd34 "_law_end_at" = true) (k34:PySem.W.keepIn K (.ref f34) = true)
    (a35:PySem.W.nsIn K mainGlobals "_law_within" = some (some (.ref f35))) (l35:K.lookup f35 = some ⟨oc35,od35,.func (PySem.W.fnOf "_law_within" "_law_within" (defArgs s_within) (defBody s_within) (defScope s_within) .none kV35 dc35 pm35 an35 cd35 ct35),sl35⟩) (c35:PySem.W.codeIn K cd35 "_law_within" = true) (k35:PySem.W.keepIn K (.ref f35) = true)
    (a36:PySem.W.nsIn K mainGlobals "_law_swept" = some (some (.ref f36))) (l36:K.lookup f36 = some ⟨oc36,od36,.func (PySem.W.fnOf "_law_swept" "_law_swept" (defArgs s_swept) (defBody s_swept) (defScope s_swept) .none kV36 dc36 pm36 an36 cd36 ct36),sl36⟩) (c36:PySem.W.codeIn K cd36 "_law_swept" = true) (k36:PySem.W.keepIn K (.ref f36) = true)
    (a37:PySem.W.nsIn K mainGlobals "_law_run_right" = some (some (.ref f37))) (l37:K.lookup f37 = some ⟨oc37,od37,.func (PySem.W.fnOf "_law_run_right" "_law_run_right" (defArgs s_run_right) (defBody s_run_right) (defScope s_run_right) .none kV37 dc37 pm37 an37 cd37 ct37),sl37⟩) (c37:PySem.W.codeIn K cd37 "_law_run_right" = true) (k37:PySem.W.keepIn K (.ref f37) = true)
    (a38:PySem.W.nsIn K mainGlobals "law" = some (some (.ref f38))) (l38:K.lookup f38 = some ⟨oc38,od38,.func (PySem.W.fnOf "law" "law" (defArgs s_law) (defBody s_law) (defScope s_law) .none kV38 dc38 pm38 an38 cd38 ct38),sl38⟩) (c38:PySem.W.codeIn K cd38 "law" = true) (k38:PySem.W.keepIn K (.ref f38) = true)
    (z_int:PySem.W.nsIn K mainGlobals "int" = some none)
    (z_bool:PySem.W.nsIn K mainGlobals "bool" = some none)
    (z_str:PySem.W.nsIn K mainGlobals "str" = some none)
    (z_list:PySem.W.nsIn K mainGlobals "list" = some none)
    (z_tuple:PySem.W.nsIn K mainGlobals "tuple" = some none)
    (z_dict:PySem.W.nsIn K mainGlobals "dict" = some none)
    (z_set:PySem.W.nsIn K mainGlobals "set" = some none)
    (z_range:PySem.W.nsIn K mainGlobals "range" = some none)
    (z_enumerate:PySem.W.nsIn K mainGlobals "enumerate" = some none)
    (z_zip:PySem.W.nsIn K mainGlobals "zip" = some none)
    (z_reversed:PySem.W.nsIn K mainGlobals "reversed" = some none)
    (z_len:PySem.W.nsIn K mainGlobals "len" = some none)
    (z_abs:PySem.W.nsIn K mainGlobals "abs" = some none)
    (z_max:PySem.W.nsIn K mainGlobals "max" = some none)
    (z_min:PySem.W.nsIn K mainGlobals "min" = some none)
    (z_isinstance:PySem.W.nsIn K mainGlobals "isinstance" = some none)
    (z_sorted:PySem.W.nsIn K mainGlobals "sorted" = some none)
    (z_all:PySem.W.nsIn K mainGlobals "all" = some none)
    (z_any:PySem.W.nsIn K mainGlobals "any" = some none)
    (z_sum:PySem.W.nsIn K mainGlobals "sum" = some none) :
    ∃ fd:FuncData,(∀ (s:Shared) (v:Value),BindsTo s fd ⟨[v],[]⟩ [("_law_script",v)]) /\ ∀ base:Heap,K.In base -> base.Ns mainGlobals mg -> FnOk l.prog w K mg base CX0 8 fa fd ["_law_script"] (spLaw K):=by
  have e:=hfa.symm.trans (PySem.W.mg_of X G a38)
  cases e
  have T:Bl mg:=⟨PySem.W.mg_none_of X G z_int,PySem.W.mg_none_of X G z_bool,PySem.W.mg_none_of X G z_str,PySem.W.mg_none_of X G z_list,PySem.W.mg_none_of X G z_tuple,PySem.W.mg_none_of X G z_dict,PySem.W.mg_none_of X G z_set,PySem.W.mg_none_of X G z_range,PySem.W.mg_none_of X G z_enumerate,PySem.W.mg_none_of X G z_zip,PySem.W.mg_none_of X G z_reversed,PySem.W.mg_none_of X G z_len,PySem.W.mg_none_of X G z_abs,PySem.W.mg_none_of X G z_max,PySem.W.mg_none_of X G z_min,PySem.W.mg_none_of X G z_isinstance,PySem.W.mg_none_of X G z_sorted,PySem.W.mg_none_of X G z_all,PySem.W.mg_none_of X G z_any,PySem.W.mg_none_of X G z_sum⟩
  have d_is_whole:Df K mg "is_whole" s_is_whole ["thing"]:=df_mk X G a0 l0 c0 k0 (el_1 fun _ => rfl)
  have d_common_divisor:Df K mg "common_divisor" s_common_divisor ["one","other"]:=df_mk X G a1 l1 c1 k1 (el_2 fun _ _ => rfl)
  have d_fraction:DfD K mg "fraction" s_fraction ["top","bottom"] [.int 1]:=dfd_mk (ds:=[.int 1 dK2]) X G a2 l2 c2 k2 t2 u2 (fun sh us hg hl => by refine el_2 (P:=fun us => BindsTo sh _ ⟨us,[]⟩ (List.zip ["top","bottom"] us)) ?_ us hl; exact fun _ _ => .of_defaults rfl hg u2 rfl rfl) (.cons ⟨_,rfl⟩ .nil) (fun sh us hg hl => by refine el_1 (P:=fun us => BindsTo sh _ ⟨us,[]⟩ (List.zip ["top","bottom"] (us ++ [.int 1 dK2]))) ?_ us (show us.length = 1 by simpa using hl); exact fun _ => .of_defaults rfl hg u2 rfl rfl)
  have d_added:Df K mg "added" s_added ["one","other"]:=df_mk X G a3 l3 c3 k3 (el_2 fun _ _ => rfl)
  have d_lessened:Df K mg "lessened" s_lessened ["one","other"]:=df_mk X G a4 l4 c4 k4 (el_2 fun _ _ => rfl)
  have d_timed:Df K mg "timed" s_timed ["one","other"]:=df_mk X G a5 l5 c5 k5 (el_2 fun _ _ => rfl)
  have d_divided:Df K mg "divided" s_divided ["one","other"]:=df_mk X G a6 l6 c6 k6 (el_2 fun _ _ => rfl)
  have d_is_less:Df K mg "is_less" s_is_less ["one","other"]:=df_mk X G a7 l7 c7 k7 (el_2 fun _ _ => rfl)
  have d_posts_of:Df K mg "posts_of" s_posts_of ["net"]:=df_mk X G a8 l8 c8 k8 (el_1 fun _ => rfl)
  have d_runs_beside:Df K mg "runs_beside" s_runs_beside ["net"]:=df_mk X G a9 l9 c9 k9 (el_1 fun _ => rfl)
  have d_least_moments:Df K mg "least_moments" s_least_moments ["deeds"]:=df_mk X G a10 l10 c10 k10 (el_1 fun _ => rfl)
  have d_is_out:Df K mg "is_out" s_is_out ["taken","number","moment"]:=df_mk X G a11 l11 c11 k11 (el_3 fun _ _ _ => rfl)
  have d_earliest_of:Df K mg "earliest_of" s_earliest_of ["waiting"]:=df_mk X G a12 l12 c12 k12 (el_1 fun _ => rfl)
  have d_falls_of:DfD K mg "falls_of" s_falls_of ["net","pushes","takings"] [.non]:=dfd_mk (ds:=[.none]) X G a13 l13 c13 k13 t13 u13 (fun sh us hg hl => by refine el_3 (P:=fun us => BindsTo sh _ ⟨us,[]⟩ (List.zip ["net","pushes","takings"] us)) ?_ us hl; exact fun _ _ _ => .of_defaults rfl hg u13 rfl rfl) (.cons rfl .nil) (fun sh us hg hl => by refine el_2 (P:=fun us => BindsTo sh _ ⟨us,[]⟩ (List.zip ["net","pushes","takings"] (us ++ [.none]))) ?_ us (show us.length = 2 by simpa using hl); exact fun _ _ => .of_defaults rfl hg u13 rfl rfl)
  have d_fall_moments:DfD K mg "fall_moments" s_fall_moments ["net","pushes","takings"] [.non]:=dfd_mk (ds:=[.none]) X G a14 l14 c14 k14 t14 u14 (fun sh us hg hl => by refine el_3 (P:=fun us => BindsTo sh _ ⟨us,[]⟩ (List.zip ["net","pushes","takings"] us)) ?_ us hl; exact fun _ _ _ => .of_defaults rfl hg u14 rfl rfl) (.cons rfl .nil) (fun sh us hg hl => by refine el_2 (P:=fun us => BindsTo sh _ ⟨us,[]⟩ (List.zip ["net","pushes","takings"] (us ++ [.none]))) ?_ us (show us.length = 2 by simpa using hl); exact fun _ _ => .of_defaults rfl hg u14 rfl rfl)
  have d_share_passed:Df K mg "share_passed" s_share_passed ["fell","time","moment"]:=df_mk X G a15 l15 c15 k15 (el_3 fun _ _ _ => rfl)
  have d_standing_by:Df K mg "standing_by" s_standing_by ["run","moments","taken","moment"]:=df_mk X G a16 l16 c16 k16 (el_4 fun _ _ _ _ => rfl)
  have d_standing_in:DfD K mg "standing_in" s_standing_in ["net","pushes","number","moment","takings"] [.non]:=dfd_mk (ds:=[.none]) X G a17 l17 c17 k17 t17 u17 (fun sh us hg hl => by refine el_5 (P:=fun us => BindsTo sh _ ⟨us,[]⟩ (List.zip ["net","pushes","number","moment","takings"] us)) ?_ us hl; exact fun _ _ _ _ _ => .of_defaults rfl hg u17 rfl rfl) (.cons rfl .nil) (fun sh us hg hl => by refine el_4 (P:=fun us => BindsTo sh _ ⟨us,[]⟩ (List.zip ["net","pushes","number","moment","takings"] (us ++ [.none]))) ?_ us (show us.length = 4 by simpa using hl); exact fun _ _ _ _ => .of_defaults rfl hg u17 rfl rfl)
  have d_is_swept:Df K mg "is_swept" s_is_swept ["fell","time","beyond"]:=df_mk X G a18 l18 c18 k18 (el_3 fun _ _ _ => rfl)
  have d_ending_by_falls:Df K mg "ending_by_falls" s_ending_by_falls ["run","moments"]:=df_mk X G a19 l19 c19 k19 (el_2 fun _ _ => rfl)
  have d_moment_of:Df K mg "moment_of" s_moment_of ["ending"]:=df_mk X G a20 l20 c20 k20 (el_1 fun _ => rfl)
  have d_ending_by:Df K mg "ending_by" s_ending_by ["run","moments","taken"]:=df_mk X G a21 l21 c21 k21 (el_3 fun _ _ _ => rfl)
  have d_ending_of:DfK K mg "ending_of" s_ending_of ["net","pushes","number","takings"] [.non] 3 ["takings"]:=dfk_mk (ds:=[.none]) X G a22 l22 c22 k22 t22 u22 (fun sh us hg hl => by refine el_4 (P:=fun us => BindsTo sh _ ⟨us,[]⟩ (List.zip ["net","pushes","number","takings"] us)) ?_ us hl; exact fun _ _ _ _ => .of_defaults rfl hg u22 rfl rfl) (.cons rfl .nil) (fun sh us hg hl => by refine el_3 (P:=fun us => BindsTo sh _ ⟨us,[]⟩ (List.zip ["net","pushes","number","takings"] (us ++ [.none]))) ?_ us (show us.length = 3 by simpa using hl); exact fun _ _ _ => .of_defaults rfl hg u22 rfl rfl) (by decide) (fun sh us ws hg hu hw => by refine el_3 (P:=fun us => BindsTo sh _ ⟨us,List.zip ["takings"] ws⟩ (List.zip ["net","pushes","number","takings"] (us ++ ws))) ?_ us hu; exact fun _ _ _ => by refine el_1 (P:=fun ws => BindsTo sh _ ⟨_,List.zip ["takings"] ws⟩ (List.zip ["net","pushes","number","takings"] (_ ++ ws))) ?_ ws hw; exact fun _ => .of_defaults rfl hg u22 rfl rfl)
  have d_cell_at:Df K mg "_law_cell_at" s_cell_at ["_law_script","_law_k"]:=df_mk X G a23 l23 c23 k23 (el_2 fun _ _ => rfl)
  have d_mixed:Df K mg "_law_mixed" s_mixed ["_law_cell","_law_k"]:=df_mk X G a24 l24 c24 k24 (el_2 fun _ _ => rfl)
  have d_number:Df K mg "_law_number" s_number ["_law_script","_law_k"]:=df_mk X G a25 l25 c25 k25 (el_2 fun _ _ => rfl)
  have d_low:Df K mg "_law_low" s_low ["_law_top","_law_bottom"]:=df_mk X G a26 l26 c26 k26 (el_2 fun _ _ => rfl)
  have d_posts:Df K mg "_law_posts" s_posts ["_law_number_here"]:=df_mk X G a27 l27 c27 k27 (el_1 fun _ => rfl)
  have d_time:Df K mg "_law_time" s_time ["_law_number_here"]:=df_mk X G a28 l28 c28 k28 (el_1 fun _ => rfl)
  have d_here:Df K mg "_law_here" s_here ["_law_script","_law_most"]:=df_mk X G a29 l29 c29 k29 (el_2 fun _ _ => rfl)
  have d_net:Df K mg "_law_net" s_net ["_law_here_here"]:=df_mk X G a30 l30 c30 k30 (el_1 fun _ => rfl)
  have d_pushes:Df K mg "_law_pushes" s_pushes ["_law_here_here"]:=df_mk X G a31 l31 c31 k31 (el_1 fun _ => rfl)
  have d_handed:Df K mg "_law_handed" s_handed ["_law_here_here"]:=df_mk X G a32 l32 c32 k32 (el_1 fun _ => rfl)
  have d_less:Df K mg "_law_less" s_less ["_law_one","_law_other"]:=df_mk X G a33 l33 c33 k33 (el_2 fun _ _ => rfl)
  have d_end_at:Df K mg "_law_end_at" s_end_at ["_law_told"]:=df_mk X G a34 l34 c34 k34 (el_1 fun _ => rfl)
  have d_within:Df K mg "_law_within" s_within ["_law_inner","_law_outer"]:=df_mk X G a35 l35 c35 k35 (el_2 fun _ _ => rfl)
  have d_swept:Df K mg "_law_swept" s_swept ["_law_net_here","_law_fallen","_law_k","_law_told"]:=df_mk X G a36 l36 c36 k36 (el_4 fun _ _ _ _ => rfl)
  have d_run_right:Df K mg "_law_run_right" s_run_right ["_law_net_here","_law_pushes_here","_law_takings","_law_k","_law_moments","_law_fallen"]:=df_mk X G a37 l37 c37 k37 (el_6 fun _ _ _ _ _ _ => rfl)
  have FL:=fun_mk (st:=s_law) l38 c38 k38
  refine ⟨PySem.W.fnOf "law" "law" (defArgs s_law) (defBody s_law) (defScope s_law) .none kV38 dc38 pm38 an38 cd38 ct38,fun s v => .of_eq rfl,fun base _ _ => ?_⟩
  have o_is_whole:Okf l.prog w K mg base 1 "is_whole" ["thing"]   (spWhole K):=ok_is_whole (k:=0) T d_is_whole
  have o_common_divisor:Okf l.prog w K mg base 1 "common_divisor" ["one","other"]   spGcd:=ok_common_divisor (k:=0) T d_common_divisor
  have o_fraction:OkfD l.prog w K mg base 2 "fraction" ["top","bottom"] [.int 1]  (spFraction K):=ok_fraction (k:=1) T d_fraction (o_common_divisor.mono (by decide)) (o_is_whole.mono (by decide))
  have o_added:Okf l.prog w K mg base 2 "added" ["one","other"]   spAddQ:=ok_added (k:=1) T d_added (o_common_divisor.mono (by decide))
  have o_lessened:Okf l.prog w K mg base 3 "lessened" ["one","other"]   spLesQ:=ok_lessened (k:=2) T d_lessened (o_added.mono (by decide))
  have o_timed:Okf l.prog w K mg base 3 "timed" ["one","other"]   spTimQ:=ok_timed (k:=2) T d_timed (o_fraction.mono (by decide))
  have o_divided:Okf l.prog w K mg base 3 "divided" ["one","other"]   spDivQ:=ok_divided (k:=2) T d_divided (o_fraction.mono (by decide))
  have o_is_less:Okf l.prog w K mg base 1 "is_less" ["one","other"]   spLessQ:=ok_is_less (k:=0) T d_is_less
  have o_posts_of:Okf l.prog w K mg base 1 "posts_of" ["net"]   (spPosts w):=ok_posts_of (k:=0) T d_posts_of
  have o_runs_beside:Okf l.prog w K mg base 1 "runs_beside" ["net"]   spBes:=ok_runs_beside (k:=0) T d_runs_beside
  have o_least_moments:Okf l.prog w K mg base 2 "least_moments" ["deeds"]   spLst:=ok_least_moments (k:=1) T d_least_moments (o_is_less.mono (by decide))
  have o_is_out:Okf l.prog w K mg base 2 "is_out" ["taken","number","moment"]   spOut:=ok_is_out (k:=1) T d_is_out (o_is_less.mono (by decide))
  have o_earliest_of:Okf l.prog w K mg base 2 "earliest_of" ["waiting"]   spEar:=ok_earliest_of (k:=1) T d_earliest_of (o_is_less.mono (by decide))
  have o_falls_of:OkfD l.prog w K mg base 3 "falls_of" ["net","pushes","takings"] [.non]  spFls:=ok_falls_of (k:=2) T d_falls_of (o_is_less.mono (by decide)) (o_is_out.mono (by decide)) (o_added.mono (by decide)) (o_earliest_of.mono (by decide)) (o_least_moments.mono (by decide)) (o_runs_beside.mono (by decide))
  have o_fall_moments:OkfD l.prog w K mg base 4 "fall_moments" ["net","pushes","takings"] [.non]  (spFm w):=ok_fall_moments (k:=3) T d_fall_moments (o_posts_of.mono (by decide)) (o_falls_of.mono (by decide))
  have o_share_passed:Okf l.prog w K mg base 4 "share_passed" ["fell","time","moment"]   spShr:=ok_share_passed (k:=3) T d_share_passed (o_lessened.mono (by decide)) (o_divided.mono (by decide)) (o_is_less.mono (by decide))
  have o_standing_by:Okf l.prog w K mg base 5 "standing_by" ["run","moments","taken","moment"]   spStBy:=ok_standing_by (k:=4) T d_standing_by (o_is_less.mono (by decide)) (o_share_passed.mono (by decide)) (o_lessened.mono (by decide))
  have o_standing_in:OkfD l.prog w K mg base 6 "standing_in" ["net","pushes","number","moment","takings"] [.non]  (spStIn w):=ok_standing_in (k:=5) T d_standing_in (o_least_moments.mono (by decide)) (o_standing_by.mono (by decide)) (o_fall_moments.mono (by decide))
  have o_is_swept:Okf l.prog w K mg base 3 "is_swept" ["fell","time","beyond"]   spSwp:=ok_is_swept (k:=2) T d_is_swept (o_added.mono (by decide)) (o_is_less.mono (by decide))
  have o_ending_by_falls:Okf l.prog w K mg base 4 "ending_by_falls" ["run","moments"]   spEnF:=ok_ending_by_falls (k:=3) T d_ending_by_falls (o_lessened.mono (by decide)) (o_divided.mono (by decide)) (o_added.mono (by decide)) (o_timed.mono (by decide)) (o_is_swept.mono (by decide))
  have o_moment_of:Okf l.prog w K mg base 1 "moment_of" ["ending"]   spMoE:=ok_moment_of (k:=0) T d_moment_of
  have o_ending_by:Okf l.prog w K mg base 5 "ending_by" ["run","moments","taken"]   spEnBy:=ok_ending_by (k:=4) T d_ending_by (o_is_less.mono (by decide)) (o_moment_of.mono (by decide)) (o_ending_by_falls.mono (by decide))
  have o_ending_of:OkfK l.prog w K mg base 6 "ending_of" ["net","pushes","number","takings"] [.non] 3 ["takings"] (spEnOf w):=ok_ending_of (k:=5) T d_ending_of (o_least_moments.mono (by decide)) (o_ending_by.mono (by decide)) (o_fall_moments.mono (by decide))
  have o_cell_at:Okf l.prog w K mg base 1 "_law_cell_at" ["_law_script","_law_k"]   (spCell K):=ok_cell_at (k:=0) T d_cell_at
  have o_mixed:Okf l.prog w K mg base 1 "_law_mixed" ["_law_cell","_law_k"]   spMixed24:=ok_mixed (k:=0) T d_mixed
  have o_number:Okf l.prog w K mg base 2 "_law_number" ["_law_script","_law_k"]   (spNum24 K):=ok_number (k:=1) T d_number (o_mixed.mono (by decide)) (o_cell_at.mono (by decide))
  have o_low:Okf l.prog w K mg base 1 "_law_low" ["_law_top","_law_bottom"]   spLowest:=ok_low (k:=0) T d_low
  have o_posts:Okf l.prog w K mg base 1 "_law_posts" ["_law_number_here"]   spPosts24:=ok_posts (k:=0) T d_posts
  have o_time:Okf l.prog w K mg base 1 "_law_time" ["_law_number_here"]   spTime24:=ok_time (k:=0) T d_time
  have o_here:Okf l.prog w K mg base 3 "_law_here" ["_law_script","_law_most"]   (spHere24 K):=ok_here (k:=2) T d_here (o_time.mono (by decide)) (o_number.mono (by decide)) (o_posts.mono (by decide))
  have o_net:Okf l.prog w K mg base 2 "_law_net" ["_law_here_here"]   spNet24:=ok_net (k:=1) T d_net (o_low.mono (by decide))
  have o_pushes:Okf l.prog w K mg base 1 "_law_pushes" ["_law_here_here"]   spPushes24:=ok_pushes (k:=0) T d_pushes
  have o_handed:Okf l.prog w K mg base 2 "_law_handed" ["_law_here_here"]   spHanded24:=ok_handed (k:=1) T d_handed (o_low.mono (by decide)) (o_pushes.mono (by decide))
  have o_less:Okf l.prog w K mg base 1 "_law_less" ["_law_one","_law_other"]   spLessQ2:=ok_less (k:=0) T d_less
  have o_end_at:Okf l.prog w K mg base 1 "_law_end_at" ["_law_told"]   spEndAt:=ok_end_at (k:=0) T d_end_at
  have o_within:Okf l.prog w K mg base 2 "_law_within" ["_law_inner","_law_outer"]   spWithin:=ok_within (k:=1) T d_within (o_less.mono (by decide))
  have o_swept:Okf l.prog w K mg base 1 "_law_swept" ["_law_net_here","_law_fallen","_law_k","_law_told"]   spSwept23:=ok_swept (k:=0) T d_swept
  have o_run_right:Okf l.prog w K mg base 7 "_law_run_right" ["_law_net_here","_law_pushes_here","_law_takings","_law_k","_law_moments","_law_fallen"]   (spRunR w):=ok_run_right (k:=6) T d_run_right (o_swept.mono (by decide)) (o_less.mono (by decide)) (o_end_at.mono (by decide)) (o_within.mono (by decide)) (o_standing_in.mono (by decide)) (o_ending_of.mono (by decide))
  exact ok_law (k:=7) T FL (o_ending_of.mono (by decide)) (o_standing_in.mono (by decide)) (o_run_right.mono (by decide)) (o_low.mono (by decide)) (o_number.mono (by decide)) (o_fall_moments.mono (by decide)) (o_handed.mono (by decide)) (o_net.mono (by decide)) (o_here.mono (by decide))
theorem walk {l:PySem.W.OpenLaw} {q:Program} {loose:List Str} {XP:(Str -> Option Value) -> Heap -> Prop} {YP:World -> Heap -> Prop} {d:DefRec} {K:Params -> PySem.W.Frag} (hn:l.most = some 63) (hdf:d.params.defaults = [])
    (hY:∀ (w:World) (h:Heap),YP w h -> (K w.params).In h)
    (F:∀ (w:World) (mg:Str -> Option Value) (fa:Addr) (h:Heap),(K w.params).In h -> h.Ns mainGlobals mg -> mg d.name = some (.ref fa) ->
      ∃ fd:FuncData,(∀ (s:Shared) (u:Value),BindsTo s fd ⟨[u],[]⟩ [("_law_script",u)]) /\ ∀ base:Heap,(K w.params).In base -> base.Ns mainGlobals mg -> FnOk l.prog w (K w.params) mg base CX0 8 fa fd ["_law_script"] (spLaw (K w.params))) :
    PySem.W.WalkO q loose XP YP l.row.toRowW d [] (fun f vs => PySem.call f vs) :=
  L2.walk_of (n:=63) (k:=8) (x:="_law_script") (CX:=fun _ => CX0) (sp:=fun w => spLaw (K w.params)) hn (by decide) hdf ⟨rfl,by decide,by decide⟩ hY F (fun _ _ a ns hl _ hS => ⟨a,ns,rfl,hS,hl,fun _ => rfl⟩) fun _ _ _ _ _ z => z
open PySem.W in
theorem zwalk {q:Program} {loose:List Str} {XP:(Str -> Option Value) -> Heap -> Prop} {r:RowW} {d:DefRec} {kwd:List (Str×Expr)} {run:Value -> List Value -> Sem Value} {K:Params -> Frag} {as:List Addr} {n t:Nat} (e:∀ P:Params,as = List.map (fun x => x.fst) (K P))
    (W:WalkO q loose XP (kHook K as e).says r d kwd run):WalkX q loose XP (X.obsZ as) (X.valZ K n t) r d kwd run :=
  fun w s₀ s₁ mg mb G y a o pm cd doc dV kV ho hd hcd hD hmg hg args vals as' L hpre hlay hrd hwl hlo =>
    W w s₀ s₁ mg mb G ((kHook K as e).keeps w s₀.heap s₁.heap ((kHook K as e).of w s₀ (congrArg Prod.fst y)) L.keeps) a o pm cd doc dV kV ho hd hcd hD hmg hg args vals as' hpre hlay hrd hwl hlo
end Lw
open PySem PySem.W PyProof.Rows
set_option maxRecDepth 100000 in
set_option maxHeartbeats 0 in
theorem PySem.Challenge.cw_tilefall_k23_whole_amid_and_end_holds : PySem.Challenge.rw_tilefall_k23_whole_amid_and_end.Holds := by
  w_on; o_law; z_head; (case hw => w_witness2)
  k_fill
  refine Lw.zwalk (fun _ => rfl) ?_
  refine Lw.walk (l := PySem.Challenge.rw_tilefall_k23_whole_amid_and_end) rfl rfl (fun w h Y => PySem.W.kIn_of Y) ?F
  case F =>
    intro w mg fa h KX G hmg
    refine' Lw.all_mk KX G hmg ?a0 ?l0 ?c0 ?k0 ?a1 ?l1 ?c1 ?k1 ?a2 ?l2 ?c2 ?k2 ?t2 ?u2 ?a3 ?l3 ?c3 ?k3 ?a4 ?l4 ?c4 ?k4 ?a5 ?l5 ?c5 ?k5 ?a6 ?l6 ?c6 ?k6 ?a7 ?l7 ?c7 ?k7 ?a8 ?l8 ?c8 ?k8 ?a9 ?l9 ?c9 ?k9 ?a10 ?l10 ?c10 ?k10 ?a11 ?l11 ?c11 ?k11 ?a12 ?l12 ?c12 ?k12 ?a13 ?l13 ?c13 ?k13 ?t13 ?u13 ?a14 ?l14 ?c14 ?k14 ?t14 ?u14 ?a15 ?l15 ?c15 ?k15 ?a16 ?l16 ?c16 ?k16 ?a17 ?l17 ?c17 ?k17 ?t17 ?u17 ?a18 ?l18 ?c18 ?k18 ?a19 ?l19 ?c19 ?k19 ?a20 ?l20 ?c20 ?k20 ?a21 ?l21 ?c21 ?k21 ?a22 ?l22 ?c22 ?k22 ?t22 ?u22 ?a23 ?l23 ?c23 ?k23 ?a24 ?l24 ?c24 ?k24 ?a25 ?l25 ?c25 ?k25 ?a26 ?l26 ?c26 ?k26 ?a27 ?l27 ?c27 ?k27 ?a28 ?l28 ?c28 ?k28 ?a29 ?l29 ?c29 ?k29 ?a30 ?l30 ?c30 ?k30 ?a31 ?l31 ?c31 ?k31 ?a32 ?l32 ?c32 ?k32 ?a33 ?l33 ?c33 ?k33 ?a34 ?l34 ?c34 ?k34 ?a35 ?l35 ?c35 ?k35 ?a36 ?l36 ?c36 ?k36 ?a37 ?l37 ?c37 ?k37 ?a38 ?l38 ?c38 ?k38  ?z_int ?z_bool ?z_str ?z_list ?z_tuple ?z_dict ?z_set ?z_range ?z_enumerate ?z_zip ?z_reversed ?z_len ?z_abs ?z_max ?z_min ?z_isinstance ?z_sorted ?z_all ?z_any ?z_sum
    (case a0 => k_is); (case l0 => k_is); (case c0 => k_is); (case k0 => k_is)
    (case a1 => k_is); (case l1 => k_is); (case c1 => k_is); (case k1 => k_is)
    (case a2 => k_is); (case l2 => k_is); (case c2 => k_is); (case k2 => k_is); (case t2 => k_is); (case u2 => exact rfl)
    (case a3 => k_is); (case l3 => k_is); (case c3 => k_is); (case k3 => k_is)
    (case a4 => k_is); (case l4 => k_is); (case c4 => k_is); (case k4 => k_is)
    (case a5 => k_is); (case l5 => k_is); (case c5 => k_is); (case k5 => k_is)
    (case a6 => k_is); (case l6 => k_is); (case c6 => k_is); (case k6 => k_is)
    (case a7 => k_is); (case l7 => k_is); (case c7 => k_is); (case k7 => k_is)
    (case a8 => k_is); (case l8 => k_is); (case c8 => k_is); (case k8 => k_is)
    (case a9 => k_is); (case l9 => k_is); (case c9 => k_is); (case k9 => k_is)
    (case a10 => k_is); (case l10 => k_is); (case c10 => k_is); (case k10 => k_is)
    (case a11 => k_is); (case l11 => k_is); (case c11 => k_is); (case k11 => k_is)
    (case a12 => k_is); (case l12 => k_is); (case c12 => k_is); (case k12 => k_is)
    (case a13 => k_is); (case l13 => k_is); (case c13 => k_is); (case k13 => k_is); (case t13 => k_is); (case u13 => exact rfl)
    (case a14 => k_is); (case l14 => k_is); (case c14 => k_is); (case k14 => k_is); (case t14 => k_is); (case u14 => exact rfl)
    (case a15 => k_is); (case l15 => k_is); (case c15 => k_is); (case k15 => k_is)
    (case a16 => k_is); (case l16 => k_is); (case c16 => k_is); (case k16 => k_is)
    (case a17 => k_is); (case l17 => k_is); (case c17 => k_is); (case k17 => k_is); (case t17 => k_is); (case u17 => exact rfl)
    (case a18 => k_is); (case l18 => k_is); (case c18 => k_is); (case k18 => k_is)
    (case a19 => k_is); (case l19 => k_is); (case c19 => k_is); (case k19 => k_is)
    (case a20 => k_is); (case l20 => k_is); (case c20 => k_is); (case k20 => k_is)
    (case a21 => k_is); (case l21 => k_is); (case c21 => k_is); (case k21 => k_is)
    (case a22 => k_is); (case l22 => k_is); (case c22 => k_is); (case k22 => k_is); (case t22 => k_is); (case u22 => exact rfl)
    (case a23 => k_is); (case l23 => k_is); (case c23 => k_is); (case k23 => k_is)
    (case a24 => k_is); (case l24 => k_is); (case c24 => k_is); (case k24 => k_is)
    (case a25 => k_is); (case l25 => k_is); (case c25 => k_is); (case k25 => k_is)
    (case a26 => k_is); (case l26 => k_is); (case c26 => k_is); (case k26 => k_is)
    (case a27 => k_is); (case l27 => k_is); (case c27 => k_is); (case k27 => k_is)
    (case a28 => k_is); (case l28 => k_is); (case c28 => k_is); (case k28 => k_is)
    (case a29 => k_is); (case l29 => k_is); (case c29 => k_is); (case k29 => k_is)
    (case a30 => k_is); (case l30 => k_is); (case c30 => k_is); (case k30 => k_is)
    (case a31 => k_is); (case l31 => k_is); (case c31 => k_is); (case k31 => k_is)
    (case a32 => k_is); (case l32 => k_is); (case c32 => k_is); (case k32 => k_is)
    (case a33 => k_is); (case l33 => k_is); (case c33 => k_is); (case k33 => k_is)
    (case a34 => k_is); (case l34 => k_is); (case c34 => k_is); (case k34 => k_is)
    (case a35 => k_is); (case l35 => k_is); (case c35 => k_is); (case k35 => k_is)
    (case a36 => k_is); (case l36 => k_is); (case c36 => k_is); (case k36 => k_is)
    (case a37 => k_is); (case l37 => k_is); (case c37 => k_is); (case k37 => k_is)
    (case a38 => k_is); (case l38 => k_is); (case c38 => k_is); (case k38 => k_is)
    (case z_int => k_is)
    (case z_bool => k_is)
    (case z_str => k_is)
    (case z_list => k_is)
    (case z_tuple => k_is)
    (case z_dict => k_is)
    (case z_set => k_is)
    (case z_range => k_is)
    (case z_enumerate => k_is)
    (case z_zip => k_is)
    (case z_reversed => k_is)
    (case z_len => k_is)
    (case z_abs => k_is)
    (case z_max => k_is)
    (case z_min => k_is)
    (case z_isinstance => k_is)
    (case z_sorted => k_is)
    (case z_all => k_is)
    (case z_any => k_is)
    (case z_sum => k_is)
#print axioms PySem.Challenge.cw_tilefall_k23_whole_amid_and_end_holds
