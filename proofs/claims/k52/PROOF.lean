import PyProof.Rows.All
import Wide.All
import OpenK.AllK
import Wide.FinOn
import Lean
import PyProof.EqAt
import PyProof.EqKinds
import PyProof.TupleCall
import PyProof.NeKinds
import KE.KTryMore
import KE.RegKTryMore
import KE.RegKIsAll
import PyProof.ExcBaseAll.ValueError
import PyProof.ExcBaseAll.Exception
import PyProof.ExcAttrAll.ValueError
import PyProof.ExcInit
import PyProof.ExcArgsOwn
import PySem.Challenge.RW_tilefall_k52_no_wishes
set_option Elab.async false
set_option linter.all false
set_option maxRecDepth 100000
def PySem.W.Fast.tw18034047279086581687:=0
def PySem.W.Fast.tw8483694988557628746:=0
def PySem.W.Fast.tw2934751276623326594:=0
def PySem.W.Fast.tw10038821779486990473:=0
def PySem.W.Fast.tw7464046247058455905:=0
def PySem.W.Fast.tw9259250370033939691:=0
def PySem.W.Fast.tw13143479513535137913:=0
def PySem.W.Fast.tw14137372481945126355:=0
def PySem.W.Fast.tw2402810523970600693:=0
namespace L2
open PySem PySem.Spec PyProof.Rows
noncomputable abbrev Key:=Sum Int Str
noncomputable def keyIs:Key -> Value -> Bool
  | .inl k,v => Value.isInt k v
  | .inr x,v => Value.isStrOf x v
noncomputable def keyH (w:World):Key -> Int
  | .inl k => hashInt k
  | .inr x => hashStr w x
theorem keyIs_shape:∀ {k:Key} {v:Value},keyIs k v = true -> (∃ i t,k = Sum.inl i /\ v = Value.int i t) ∨ (∃ x t,k = Sum.inr x /\ v = Value.str x t)
  | .inl i,v,h => by
    obtain ⟨t,e⟩:=Value.isInt_shape (k:=i) (v:=v) h
    exact .inl ⟨i,t,rfl,e⟩
  | .inr x,v,h => by
    obtain ⟨t,e⟩:=Value.isStrOf_shape (x:=x) (v:=v) h
    exact .inr ⟨x,t,rfl,e⟩
theorem key_ll (a b:Int):decide ((Sum.inl a:Key) = Sum.inl b) = (a == b):=by
  by_cases e:a = b
  . subst e; simp
  . have h:¬ (Sum.inl a:Key) = Sum.inl b:=fun q => e (Sum.inl.inj q)
    rw [decide_eq_false h]
    exact (beq_eq_false_iff_ne.mpr e).symm
theorem key_rr (a b:Str):decide ((Sum.inr a:Key) = Sum.inr b) = decide (a = b):=by
  by_cases e:a = b
  . subst e; simp
  . have h:¬ (Sum.inr a:Key) = Sum.inr b:=fun q => e (Sum.inr.inj q)
    rw [decide_eq_false h,decide_eq_false e]
theorem key_lr (a:Int) (b:Str):decide ((Sum.inl a:Key) = Sum.inr b) = false:=decide_eq_false (fun q => nomatch q)
theorem key_rl (a:Str) (b:Int):decide ((Sum.inr a:Key) = Sum.inl b) = false:=decide_eq_false (fun q => nomatch q)
noncomputable def mixKind (prog:Program) (w:World):PySem.KeyKind prog w Key where
  is:=keyIs
  hash:=keyH w
  inj:=fun v a b ha hb => by
    rcases keyIs_shape ha with ⟨i,t,rfl,rfl⟩ | ⟨x,t,rfl,rfl⟩
    . rcases keyIs_shape hb with ⟨j,u,rfl,e⟩ | ⟨y,u,rfl,e⟩
      . injection e with e1 _; rw [e1]
      . exact nomatch e
    . rcases keyIs_shape hb with ⟨j,u,rfl,e⟩ | ⟨y,u,rfl,e⟩
      . exact nomatch e
      . injection e with e1 _; rw [e1]
  byValue:=fun k v h => by
    rcases keyIs_shape h with ⟨i,t,rfl,rfl⟩ | ⟨x,t,rfl,rfl⟩ <;> rfl
  pyHash:=fun hv h => by
    rcases keyIs_shape hv with ⟨i,t,rfl,rfl⟩ | ⟨x,t,rfl,rfl⟩
    . exact wpAny_pyHash_int h
    . exact wpAny_pyHash_str h
  eqBool:=fun hu hv h => by
    rcases keyIs_shape hu with ⟨i,t,rfl,rfl⟩ | ⟨x,t,rfl,rfl⟩
    . rcases keyIs_shape hv with ⟨j,u,rfl,rfl⟩ | ⟨y,u,rfl,rfl⟩
      . rw [key_ll] at h; exact wpAny_eqBool_int h
      . rw [key_lr] at h; exact SeqAt.EqAt.int_str i t y u _ _ _ _ h
    . rcases keyIs_shape hv with ⟨j,u,rfl,rfl⟩ | ⟨y,u,rfl,rfl⟩
      . rw [key_rl] at h; exact SeqAt.EqAt.str_int x t j u _ _ _ _ h
      . rw [key_rr] at h; exact wpAny_eqBool_str h
  «strs»:=fun k x t v h => by
    rcases keyIs_shape h with ⟨i,u,rfl,e⟩ | ⟨y,u,rfl,e⟩
    . exact nomatch e
    . injection e with e1 _
      subst e1
      cases v <;> rfl
end L2
namespace L2
open PySem PySem.Spec PyProof.Rows
inductive V where
  | non | bl (b:Bool) | int (i:Int) | str (x:Str) | byt (b:Array UInt8) | flt (b:UInt64) | ref (a:Addr) | ty (n:String)
  deriving DecidableEq
noncomputable def RelV:V -> Value -> Prop
  | .non,u => u = Value.none
  | .bl b,u => u = Value.bool b
  | .int i,u => ∃ t,u = Value.int i t
  | .str x,u => ∃ t,u = Value.str x t
  | .byt b,u => ∃ t,u = Value.bytes b t
  | .flt b,u => ∃ t,u = Value.float b t
  | .ref a,u => u = Value.ref a
  | .ty n,u => u = Value.type n
noncomputable abbrev Vals:List V -> List Value -> Prop:=Paired RelV
theorem Vals.length {xs:List V} {us:List Value} (r:Vals xs us):xs.length = us.length:=Paired.length r
theorem Vals.get:∀ {xs:List V} {us:List Value} {i:Nat} {x:V},Vals xs us -> xs[i]? = some x -> ∃ u,us[i]? = some u /\ RelV x u
  | _,_,_,_,.nil,e => by simp at e
  | _,_,0,_,.cons r _,e => by simp at e; subst e; exact ⟨_,rfl,r⟩
  | _,_,i + 1,x,.cons _ t,e => by
    obtain ⟨u,h1,h2⟩:=Vals.get (i:=i) (x:=x) t (by simpa using e)
    exact ⟨u,by simpa using h1,h2⟩
theorem Vals.append:∀ {xs ys:List V} {us ws:List Value},Vals xs us -> Vals ys ws -> Vals (xs ++ ys) (us ++ ws)
  | _,_,_,_,.nil,s => s
  | _,_,_,_,.cons r t,s => .cons r (Vals.append t s)
theorem Vals.take:∀ {xs:List V} {us:List Value} (n:Nat),Vals xs us -> Vals (xs.take n) (us.take n)
  | _,_,0,_ => .nil
  | _,_,_ + 1,.nil => .nil
  | _,_,n + 1,.cons r t => .cons r (Vals.take n t)
theorem Vals.drop:∀ {xs:List V} {us:List Value} (n:Nat),Vals xs us -> Vals (xs.drop n) (us.drop n)
  | _,_,0,r => r
  | _,_,_ + 1,.nil => .nil
  | _,_,n + 1,.cons _ t => Vals.drop n t
noncomputable def RelO:Option V -> Option Value -> Prop
  | some v,some u => RelV v u
  | none,none => True
  | _,_ => False
noncomputable def KV {κ:Type}:List (κ×V) -> List (κ×Value) -> Prop:=Paired fun (p:κ×V) (q:κ×Value) => p.1 = q.1 /\ RelV p.2 q.2
noncomputable def kV:Key -> V
  | .inl i => .int i
  | .inr x => .str x
inductive HO where
    | lst (xs:List V)
    | tup (xs:List V)
    | dK (kvs:List (Key×V)) | dT (kvs:List (List Key×V))
    | set (S:Int -> Bool) (n:Nat)
    | ins (C dx:Addr) (fs:List (Str×V))
    | own (x:Addr)
    | xd (fs:List (Str×V))
    | met (f x:Addr)
    | rng (lo hi:Int)
    | frz (o:Obj) (u:HO)
    | tbl (ps:Array Value)
    | ext (φ:Heap -> Prop)
noncomputable abbrev Hp:=Addr -> Option HO
noncomputable def upd (H:Hp) (a:Addr) (o:HO):Hp:=fun b => if b = a then some o else H b
theorem upd_same {H:Hp} {a:Addr} {o:HO}:upd H a o a = some o:=by unfold upd; rw [if_pos rfl]
theorem upd_ne {H:Hp} {a b:Addr} {o:HO} (h:b ≠ a):upd H a o b = H b:=by unfold upd; rw [if_neg h]
theorem ne_of {H:Hp} {a b:Addr} {o u:HO} (h:H a = some o) (h':H b = some u) (d:o ≠ u):a ≠ b:=by
  intro e; subst e; rw [h] at h'; exact d (Option.some.inj h')
theorem ne_of_none {H:Hp} {a b:Addr} {o:HO} (h:H a = some o) (h':H b = none):a ≠ b:=by
  intro e; subst e; rw [h] at h'; cases h'
section
variable (P:Program) (w:World)
noncomputable def ObjOk (H:Hp) (h:Heap) (a:Addr):HO -> Prop
  | .lst xs => xs.length <= sizeLine /\ ∃ (its:List Value) (n:Nat),Vals xs its /\ h.get? a = some { cls:=.type "list",data:=.seq its.toArray n }
  | .tup xs => (xs.length <= sizeLine /\ ∃ o,h.get? a = some o /\ o.dict = none) /\ ∃ its:List Value,Vals xs its /\ IsTup h a its.toArray
  | .dK kvs => kvs.length <= sizeLine /\ (a == sysModules) = false /\ ∃ vs,KV kvs vs /\ h.DictOf (mixKind P w) a vs
  | .dT kvs => kvs.length <= sizeLine /\ (a == sysModules) = false /\ ∃ xs:List (List Key×Addr×Value),
      Paired (fun (p:List Key×V) (q:List Key×Addr×Value) => p.1 = q.1 /\ H q.2.1 = some (.tup (p.1.map kV)) /\ RelV p.2 q.2.2) kvs xs /\
      ∃ o es ep,h.get? a = some o /\ o.ExactDict /\ o.data = .dict es ep /\ es.toList = xs.map (entryOfKey (tupleKind (mixKind P w))) /\ (xs.map (·.1)).Nodup
  | .set S n => h.SetOf (intKind P w) a S n
  | .ins C dx fs => H dx = some (.own a) /\ fs.length <= 1000 /\ dx ≠ a /\ h.get? a = some (PySem.W.instObj C dx) /\
      ∃ mA,h.Ns1 dx mA /\ (∀ f,RelO (fs.lookup f) (mA f)) /\ PySem.Within mA (fs.map (·.1))
  | .own _ => ∃ o,h.get? a = some o
  | .xd fs => ∃ mA,h.Ns1 a mA /\ ∀ f,RelO (fs.lookup f) (mA f)
  | .rng lo hi => ∃ t u v,h.get? a = some { cls:=.type "range",data:=.fields #[.int lo t,.int hi u,.int 1 v] }
  | .frz o u => h.get? a = some o /\ ObjOk H h a u
  | .tbl ps => h.get? a = some { cls:=.none,data:=.fields ps }
  | .met f x => h.get? a = some (PySem.W.methodObj (.ref f) (.ref x))
  | .ext φ => φ h /\ (∃ o,h.get? a = some o) /\ ∀ h1 h2:Heap,φ h1 -> (∀ o,h1.get? a = some o -> h2.get? a = some o) -> φ h2
noncomputable def HOk (H:Hp) (h:Heap):Prop:=∀ a o,H a = some o -> ObjOk P w H h a o
end
section
variable {P:Program} {w:World} {H H':Hp} {h h':Heap} {a:Addr} {o:HO}
theorem ObjOk.lt (x:ObjOk P w H h a o):a < h.objs.size:=by
  cases o with
  | lst xs => obtain ⟨_,_,_,_,e⟩:=x; exact Heap.lt_size e
  | tup xs => obtain ⟨_,_,_,p⟩:=x; exact p.lt
  | dK kvs => obtain ⟨_,_,_,_,o,_,_,e,_⟩:=x; exact Heap.lt_size e
  | dT kvs => obtain ⟨_,_,_,_,o,_,_,e,_⟩:=x; exact Heap.lt_size e
  | set S n => obtain ⟨o,_,_,_,e,_⟩:=x; exact Heap.lt_size e
  | ins C dx fs => obtain ⟨_,_,_,e,_⟩:=x; exact Heap.lt_size e
  | own y => obtain ⟨_,e⟩:=x; exact Heap.lt_size e
  | xd fs => obtain ⟨_,⟨_,_,_,e,_⟩,_⟩:=x; exact Heap.lt_size e
  | rng lo hi => obtain ⟨_,_,_,e⟩:=x; exact Heap.lt_size e
  | frz ob u => obtain ⟨e,_⟩:=x; exact Heap.lt_size e
  | tbl ps => exact Heap.lt_size (show h.get? a = some _ from x)
  | met f y => exact Heap.lt_size (show h.get? a = some _ from x)
  | ext φ => obtain ⟨_,⟨_,e⟩,_⟩:=x; exact Heap.lt_size e
theorem Paired.mapP {α β:Type} {F G:α -> β -> Prop}:∀ {l₁:List α} {l₂:List β},Paired F l₁ l₂ -> (∀ a b,F a b -> G a b) -> Paired G l₁ l₂
  | _,_,.nil,_ => .nil
  | _,_,.cons r t,f => .cons (f _ _ r) (Paired.mapP t f)
theorem ObjOk.stay (x:ObjOk P w H h a o) (k:∀ b u,(b = a ∨ H b = some (.own a)) -> h.get? b = some u -> h'.get? b = some u)
    (ho:∀ b,H b = some (.own a) -> H' b = some (.own a)) (ht:∀ b xs,H b = some (.tup xs) -> H' b = some (.tup xs)):ObjOk P w H' h' a o:=by
  induction o with
  | lst xs => obtain ⟨z,its,n,r,e⟩:=x; exact ⟨z,its,n,r,k _ _ (.inl rfl) e⟩
  | tup xs => obtain ⟨⟨z,o1,e1,d1⟩,its,r,ob,e,c⟩:=x; exact ⟨⟨z,o1,k _ _ (.inl rfl) e1,d1⟩,its,r,ob,k _ _ (.inl rfl) e,c⟩
  | dK kvs => obtain ⟨z,y,vs,r,ob,es,ep,e,c⟩:=x; exact ⟨z,y,vs,r,ob,es,ep,k _ _ (.inl rfl) e,c⟩
  | dT kvs =>
    obtain ⟨z,y,xs,r,ob,es,ep,e,c⟩:=x
    exact ⟨z,y,xs,Paired.mapP r fun p q z => ⟨z.1,ht _ _ z.2.1,z.2.2⟩,ob,es,ep,k _ _ (.inl rfl) e,c⟩
  | set S n => obtain ⟨ob,es,ep,t,e,c⟩:=x; exact ⟨ob,es,ep,t,k _ _ (.inl rfl) e,c⟩
  | ins C dx fs =>
    obtain ⟨d,z,ne,e,mA,⟨od,es,ep,e2,c⟩,r⟩:=x
    exact ⟨ho _ d,z,ne,k _ _ (.inl rfl) e,mA,⟨od,es,ep,k _ _ (.inr d) e2,c⟩,r⟩
  | own y => obtain ⟨ob,e⟩:=x; exact ⟨ob,k _ _ (.inl rfl) e⟩
  | xd fs => obtain ⟨mA,⟨od,es,ep,e,c⟩,r⟩:=x; exact ⟨mA,⟨od,es,ep,k _ _ (.inl rfl) e,c⟩,r⟩
  | rng lo hi => obtain ⟨t,u,v,e⟩:=x; exact ⟨t,u,v,k _ _ (.inl rfl) e⟩
  | frz ob u ih => obtain ⟨e,q⟩:=x; exact ⟨k _ _ (.inl rfl) e,ih q⟩
  | tbl ps =>
    have e:h.get? a = some { cls:=.none,data:=.fields ps }:=x
    show h'.get? a = some { cls:=.none,data:=.fields ps }
    exact k a _ (.inl rfl) e
  | met f y =>
    have e:h.get? a = some (PySem.W.methodObj (.ref f) (.ref y)):=x
    show h'.get? a = some (PySem.W.methodObj (.ref f) (.ref y))
    exact k a _ (.inl rfl) e
  | ext φ => obtain ⟨p,⟨o,e⟩,st⟩:=x; exact ⟨st _ _ p fun o q => k _ _ (.inl rfl) q,⟨o,k _ _ (.inl rfl) e⟩,st⟩
theorem HOk.lt (x:HOk P w H h) (e:H a = some o):a < h.objs.size:=(x a o e).lt
theorem HOk.fresh (x:HOk P w H h) (e:h.objs.size <= a):H a = none:=by
  cases q:H a with
  | none => rfl
  | some u => exact absurd (Nat.lt_of_lt_of_le (x.lt q) e) (Nat.lt_irrefl _)
theorem HOk.kept (x:HOk P w H h) (k:∀ b u,h.get? b = some u -> h'.get? b = some u):HOk P w H h':=fun a o e =>
  (x a o e).stay (fun b u _ q => k b u q) (fun _ q => q) fun _ _ q => q
theorem HOk.laid (x:HOk P w H h) (k:∀ b u,h.get? b = some u -> h'.get? b = some u) (hp:h.objs.size <= a) (new:ObjOk P w (upd H a o) h' a o):HOk P w (upd H a o) h':=fun b u e => by
  have hn:=x.fresh hp
  by_cases hb:b = a
  . subst hb; rw [upd_same] at e; cases e; exact new
  . rw [upd_ne hb] at e
    exact (x b u e).stay (fun c v _ q => k c v q) (fun c q => by rw [upd_ne (ne_of_none q hn)]; exact q) fun c xs q => by rw [upd_ne (ne_of_none q hn)]; exact q
end
noncomputable def Rd (H:Hp) (a:Addr) (u:HO):Prop:=H a = some u ∨ ∃ o,H a = some (.frz o u)
theorem Rd.ok {P:Program} {w:World} {H:Hp} {h:Heap} {a:Addr} {u:HO} (r:Rd H a u) (x:HOk P w H h):ObjOk P w H h a u:=by
  rcases r with r | ⟨o,r⟩
  . exact x a u r
  . obtain ⟨_,q⟩:=x a _ r
    exact q
noncomputable def Mut:Option HO -> Prop
  | some (.lst _) => True
  | some (.dK _) => True
  | some (.dT _) => True
  | some (.set _ _) => True
  | some (.ins _ _ _) => True
  | some (.ext _) => True
  | _ => False
section
variable {P:Program} {w:World} {H:Hp} {h h':Heap} {x e:Addr} {o':HO}
theorem HOk.write (ok:HOk P w H h) (mu:Mut (H x)) (he:e = x ∨ H e = some (.own x)) (k:∀ b u,b ≠ e -> h.get? b = some u -> h'.get? b = some u) (heo:∃ u,h'.get? e = some u)
    (new:ObjOk P w (upd H x o') h' x o'):HOk P w (upd H x o') h':=fun b u q => by
  have nown:∀ c y,H c = some (.own y) -> c ≠ x:=fun c y r z => by subst z; rw [r] at mu; exact mu
  have ntup:∀ c xs,H c = some (.tup xs) -> c ≠ x:=fun c xs r z => by subst z; rw [r] at mu; exact mu
  by_cases hb:b = x
  . subst hb; rw [upd_same] at q; cases q; exact new
  . rw [upd_ne hb] at q
    by_cases hbe:b = e
    . have q':H b = some (.own x):=by
        rcases he with z | z
        . exact absurd (hbe.trans z) hb
        . rw [hbe]; exact z
      rw [q] at q'; cases q'
      obtain ⟨v,hv⟩:=heo
      exact ⟨v,by rw [hbe]; exact hv⟩
    . refine (ok b u q).stay (fun c v hc r => k c v ?_ r) (fun c r => by rw [upd_ne (nown c b r)]; exact r) fun c xs r => by rw [upd_ne (ntup c xs r)]; exact r
      rcases hc with rfl | hc
      . exact hbe
      . rintro rfl
        rcases he with z | z
        . exact nown c b hc z
        . rw [hc] at z; cases z; exact hb rfl
end
structure Un (fs ex:List Addr) (H H':Hp) (h h':Heap):Prop where
  keep:∀ b o,h.get? b = some o -> H b = none -> b ∉ fs -> b ∉ ex -> h'.get? b = some o
  slot:∀ b o,h.get? b = some o -> H b = none -> b ∈ fs -> b ∉ ex -> ∃ sl,h'.get? b = some { o with slots:=sl }
  free:∀ b o,h.get? b = some o -> H b = none -> b ∉ ex -> H' b = none
  there:∀ b o,h.get? b = some o -> b ∉ ex -> ∃ o',h'.get? b = some o'
  tups:∀ b xs,H b = some (.tup xs) -> H' b = some (.tup xs)
  frzs:∀ b o u,H b = some (.frz o u) -> H' b = some (.frz o u)
  tbls:∀ b ps,H b = some (.tbl ps) -> ∃ more,H' b = some (.tbl (ps ++ more))
section
variable {fs fs' ex ex':List Addr} {H H1 H2:Hp} {h h1 h2 h':Heap} {a x e:Addr} {o:HO}
theorem Un.any (u:Un fs ex H H1 h h1) {b:Addr} {ob:Obj} (q:h.get? b = some ob) (n:H b = none) (hx:b ∉ ex):∃ sl,h1.get? b = some { ob with slots:=sl }:=by
  by_cases hb:b ∈ fs
  . exact u.slot b ob q n hb hx
  . exact ⟨ob.slots,u.keep b ob q n hb hx⟩
theorem Un.trans (a:Un fs ex H H1 h h1) (b:Un fs ex H1 H2 h1 h2):Un fs ex H H2 h h2 where
  keep:=fun c ob q n hc hx => b.keep c ob (a.keep c ob q n hc hx) (a.free c ob q n hx) hc hx
  slot:=fun c ob q n hc hx => by
    obtain ⟨sl,e1⟩:=a.slot c ob q n hc hx
    obtain ⟨sl',e2⟩:=b.slot c _ e1 (a.free c ob q n hx) hc hx
    exact ⟨sl',e2⟩
  free:=fun c ob q n hx => by
    obtain ⟨o',e1⟩:=a.there c ob q hx
    exact b.free c o' e1 (a.free c ob q n hx) hx
  there:=fun c ob q hx => by
    obtain ⟨o',e1⟩:=a.there c ob q hx
    exact b.there c o' e1 hx
  tups:=fun c xs q => b.tups c xs (a.tups c xs q)
  frzs:=fun c ob xs q => b.frzs c ob xs (a.frzs c ob xs q)
  tbls:=fun c ps q => by
    obtain ⟨m1,e1⟩:=a.tbls c ps q
    obtain ⟨m2,e2⟩:=b.tbls c _ e1
    exact ⟨m1 ++ m2,by rw [e2,Array.append_assoc]⟩
theorem Un.kept (k:∀ b u,h.get? b = some u -> h'.get? b = some u):Un fs ex H H h h' :=
  ⟨fun b ob q _ _ _ => k b ob q,fun b ob q _ _ _ => ⟨ob.slots,k b ob q⟩,fun _ _ _ n _ => n,fun b ob q _ => ⟨ob,k b ob q⟩,fun _ _ q => q,fun _ _ _ q => q,fun _ ps q => ⟨#[],by rw [q]; simp⟩⟩
theorem Un.refl:Un fs ex H H h h:=Un.kept fun _ _ q => q
theorem Un.laid (k:∀ b u,h.get? b = some u -> h'.get? b = some u) (hp:h.objs.size <= a) (hn:H a = none):Un fs ex H (upd H a o) h h' where
  keep:=fun b u q _ _ _ => k b u q
  slot:=fun b u q _ _ _ => ⟨u.slots,k b u q⟩
  free:=fun b u q n _ => by rw [upd_ne (Nat.ne_of_lt (Nat.lt_of_lt_of_le (Heap.lt_size q) hp))]; exact n
  there:=fun b u q _ => ⟨u,k b u q⟩
  tups:=fun b xs q => by rw [upd_ne (ne_of_none q hn)]; exact q
  frzs:=fun b u xs q => by rw [upd_ne (ne_of_none q hn)]; exact q
  tbls:=fun b ps q => ⟨#[],by rw [upd_ne (ne_of_none q hn),q]; simp⟩
theorem Un.write (mu:Mut (H x)) (he:e = x ∨ H e = some (.own x)) (k:∀ b u,b ≠ e -> h.get? b = some u -> h'.get? b = some u) (heo:∃ u,h'.get? e = some u):Un fs ex H (upd H x o) h h':=by
  have hx:∀ b,H b = none -> b ≠ x:=fun b n z => by subst z; rw [n] at mu; exact mu
  have hb:∀ b,H b = none -> b ≠ e:=fun b n z => by
    subst z
    rcases he with r | r
    . exact hx b n r
    . rw [n] at r; cases r
  have hm:∀ b u,H b = some u -> ¬ Mut (some u) -> b ≠ x:=fun b u q nm z => by subst z; rw [q] at mu; exact nm mu
  refine ⟨fun b u q n _ _ => k b u (hb b n) q,fun b u q n _ _ => ⟨u.slots,k b u (hb b n) q⟩,fun b u q n _ => by rw [upd_ne (hx b n)]; exact n,fun b u q _ => ?_,
    fun b xs q => by rw [upd_ne (hm b _ q fun z => z)]; exact q,fun b u xs q => by rw [upd_ne (hm b _ q fun z => z)]; exact q,fun b ps q => ⟨#[],by rw [upd_ne (hm b _ q fun z => z),q]; simp⟩⟩
  by_cases hbe:b = e
  . subst hbe; exact heo
  . exact ⟨u,k b u hbe q⟩
end
noncomputable def trk (h:Heap) (H:Hp):List Addr:=(List.range h.objs.size).filter fun a => (H a).isSome
noncomputable def hidT (h:Heap) (H:Hp):Heap:=PySem.W.hideAll h (trk h H)
theorem hidT_size (h:Heap) (H:Hp):(hidT h H).objs.size = h.objs.size:=PySem.W.hideAll_size _ _
theorem hidT_get {h:Heap} {H:Hp} {b:Addr} {o:Obj} (e:h.get? b = some o) (n:H b = none):(hidT h H).get? b = some o :=
  PySem.W.hideAll_get _ e fun hm => by
    have q:(H b).isSome = true:=(List.mem_filter.mp hm).2
    rw [n] at q; simp at q
theorem of_hidT {h:Heap} {H:Hp} {b:Addr} {o:Obj} (e:(hidT h H).get? b = some o):h.get? b = some o /\ H b = none:=by
  have e':h.get? b = some o:=PySem.W.of_hideAll (trk h H) e
  refine ⟨e',?_⟩
  cases q:H b with
  | none => rfl
  | some x =>
    have hm:b ∈ trk h H:=List.mem_filter.mpr ⟨List.mem_range.mpr (Heap.lt_size e'),by simp [q]⟩
    have z:(hidT h H).get? b = none:=PySem.W.hideAll_none (trk h H) hm
    rw [z] at e; cases e
noncomputable def allNews (g h:Heap) (L:Addr):List (Addr×Obj):=(List.range h.objs.size).filterMap fun a => if a = L ∨ (g.get? a).isSome = true then none else (h.get? a).map fun o => (a,o)
noncomputable def rest (g h:Heap) (L d:Addr):List (Addr×Obj):=(allNews g h L).filter fun p => decide (p.1 ≠ d)
end L2
namespace L2
open PySem PySem.Spec PyProof.Rows
structure Mod (K:PySem.W.Frag) (mg:Str -> Option Value) (base:Heap):Prop where
  kin:K.In base
  glob:base.Ns mainGlobals mg
  blt:∃ mb,base.Ns builtinsNs mb /\ ∀ x:Str,x ≠ "__name__" -> mb x = bootBuiltins x
  nolimit:base.NoLimit
set_option genInjectivity false in
set_option genSizeOfSpec false in
structure Cx where
  prog:Program
  w:World
  K:PySem.W.Frag
  mg:Str -> Option Value
  base:Heap
  A:Around
  N:List Str
  s₀:Shared
  H₀:Hp
  env:Env
  outer:List Env
  stack:List Env
  ex:List Addr
  fn:Str -> Bool
  calm:Bool
  pn:List (Addr×Obj)
  xe:Value -> Shared -> Prop
noncomputable def frs (l:List Env):List Addr:=l.filterMap (·.frame)
noncomputable abbrev Cx.fs (X:Cx):List Addr:=frs X.outer
noncomputable def Vis (sc:Scope) (x:Str):Prop:=sc.names.lookup x = some .local ∨ sc.names.lookup x = some .cell ∨ sc.names.lookup x = some .free
noncomputable def Loc (sc:Scope) (x:Str):Prop:=sc.names.lookup x = some .local ∨ sc.names.lookup x = some .cell
noncomputable def Look (env:Env) (h:Heap) (m:Str -> Option Value) (x:Str) (u:Value):Prop :=
  (env.kindOf x = some .local /\ m x = some u) ∨ ((env.kindOf x = some .cell ∨ env.kindOf x = some .free) /\ ∃ c,env.cells.lookup x = some c /\ h.IsCell c (some u))
structure Cx.Ok (X:Cx):Prop where
  mod:Mod X.K X.mg X.base
  kind:X.env.scope.kind = .function
  glob:X.env.globals = mainGlobals
  blt:X.env.builtins = builtinsNs
  above:X.s₀.heap.objs.size <= X.env.locals
  inj:∀ x y c,X.env.cells.lookup x = some c -> X.env.cells.lookup y = some c -> x = y
  has:∀ x,(X.env.kindOf x = some .cell ∨ X.env.kindOf x = some .free) -> ∃ c,X.env.cells.lookup x = some c
  cab:∀ x c,X.fn x = true -> X.env.cells.lookup x = some c -> X.s₀.heap.objs.size <= c
  hd:X.calm = true -> X.A.handled = none
  frames:X.A.frames = some X.stack
  stk:X.stack = X.outer ∨ (X.stack = X.env :: X.outer /\ X.env.frame = some X.env.locals)
  exf:∀ b ∈ X.ex,b ≠ X.env.locals /\ ∀ x c,X.env.cells.lookup x = some c -> c ≠ b
  bs:∀ b o,X.base.get? b = some o -> X.s₀.heap.get? b = some o /\ X.H₀ b = none
  bsz:X.base.objs.size <= X.s₀.heap.objs.size
  noex:∀ b o,X.base.get? b = some o -> b ∉ X.ex
  exfs:∀ b ∈ X.ex,b ∉ X.fs
  funs:X.s₀.heap.FunFrames X.base X.outer
  frf:∀ b ∈ X.fs,X.H₀ b = none
structure Inv (X:Cx) (pins:List (Addr×Obj)) (σ:List (Option V)) (H:Hp) (s:Shared):Prop where
  ok:X.Ok
  os:s.os = X.s₀.os
  bare:AllBare s.gens
  base:Un X.fs X.ex X.H₀ H X.s₀.heap s.heap
  loc:∃ m,s.heap.Ns X.env.locals m /\ ∀ (i:Nat) (x:Str) (v:V),X.N[i]? = some x -> σ[i]? = some (some v) -> Vis X.env.scope x -> ∃ u,RelV v u /\ Look X.env s.heap m x u
  cell:∀ x c,X.env.cells.lookup x = some c -> ∃ v,s.heap.IsCell c v
  free:H X.env.locals = none
  freeC:∀ x c,X.env.cells.lookup x = some c -> H c = none
  pin:∀ p ∈ X.pn ++ pins,s.heap.get? p.1 = some p.2 /\ H p.1 = none /\ p.1 ≠ X.env.locals /\ p.1 ∉ X.fs /\ ∀ v,p.2.data ≠ .cell v
  hok:HOk X.prog X.w H s.heap
  len:σ.length = X.N.length
section
variable {X:Cx} {pins:List (Addr×Obj)} {σ:List (Option V)} {H H':Hp} {s:Shared} {h':Heap}
theorem Cx.Ok.nofr (ok:X.Ok) {b:Addr} {o:Obj} (e:X.base.get? b = some o):b ∉ X.fs:=fun hb => by
  have:=(ok.funs.mem hb).1
  rw [e] at this; cases this
theorem Inv.bs (I:Inv X pins σ H s):∀ b o,X.base.get? b = some o -> s.heap.get? b = some o /\ H b = none:=fun b o e =>
  ⟨I.base.keep b o (I.ok.bs b o e).1 (I.ok.bs b o e).2 (I.ok.nofr e) (I.ok.noex b o e),I.base.free b o (I.ok.bs b o e).1 (I.ok.bs b o e).2 (I.ok.noex b o e)⟩
theorem Inv.bk (I:Inv X pins σ H s):∀ b o,X.base.get? b = some o -> s.heap.get? b = some o:=fun b o e => (I.bs b o e).1
theorem Inv.mod (I:Inv X pins σ H s):Mod X.K X.mg X.base:=I.ok.mod
theorem Inv.kIn (I:Inv X pins σ H s):X.K.In s.heap:=I.ok.mod.kin.keeps I.bk
theorem Inv.lt (I:Inv X pins σ H s):X.env.locals < s.heap.objs.size:=let ⟨_,hn,_⟩:=I.loc; hn.lt
theorem Inv.sz (I:Inv X pins σ H s):X.s₀.heap.objs.size <= s.heap.objs.size:=Nat.le_trans I.ok.above (Nat.le_of_lt I.lt)
theorem Inv.nofs (I:Inv X pins σ H s) {a:Addr} (h:s.heap.objs.size <= a):a ∉ X.fs:=fun hb => by
  obtain ⟨_,o,ho,_⟩:=I.ok.funs.mem hb
  exact absurd (Nat.lt_of_lt_of_le (Heap.lt_size ho) (Nat.le_trans I.sz h)) (Nat.lt_irrefl _)
theorem Inv.cne (I:Inv X pins σ H s):∀ x c,X.env.cells.lookup x = some c -> c ≠ X.env.locals:=fun x c e z => by
  obtain ⟨v,o,ho,hd⟩:=I.cell x c e
  obtain ⟨m,⟨o',es,ep,ho',hd',_⟩,_⟩:=I.loc
  rw [z,ho'] at ho; cases ho; rw [hd'] at hd; cases hd
theorem Inv.funs (I:Inv X pins σ H s):s.heap.FunFrames X.base X.outer:=by
  have all:∀ (l:List Env),(∀ b ∈ frs l,b ∈ X.fs) -> X.s₀.heap.FunFrames X.base l -> s.heap.FunFrames X.base l:=by
    intro l
    induction l with
    | nil => intro _ _; trivial
    | cons env r ih =>
      intro hs hl
      obtain ⟨hk,⟨L,o,hf,hn,ho,hd⟩,hr⟩:=hl
      have hL:L ∈ X.fs:=hs L (by unfold frs; rw [List.filterMap_cons,hf]; exact List.mem_cons_self)
      obtain ⟨sl,e⟩:=I.base.slot L o ho (I.ok.frf L hL) hL fun z => I.ok.exfs L z hL
      exact ⟨hk,⟨L,_,hf,hn,e,hd⟩,ih (fun b hb => hs b (by unfold frs; rw [List.filterMap_cons,hf]; exact List.mem_cons_of_mem _ hb)) hr⟩
  exact all X.outer (fun _ hb => hb) I.ok.funs
theorem Inv.stack (I:Inv X pins σ H s):s.heap.FunFrames X.base X.stack:=by
  rcases I.ok.stk with e | ⟨e,hf⟩
  . rw [e]; exact I.funs
  . rw [e]
    obtain ⟨m,hn,_⟩:=I.loc
    refine .cons (by rw [I.ok.kind]; decide) hf hn ?_ I.funs
    exact Heap.get?_none_of_le (Nat.le_trans I.ok.bsz I.ok.above)
theorem Inv.stkSub (I:Inv X pins σ H s):∀ b ∈ frs X.stack,b ∈ X.env.locals :: X.fs:=fun b hb => by
  rcases I.ok.stk with e | ⟨e,hf⟩
  . rw [e] at hb; exact List.mem_cons_of_mem _ hb
  . rw [e] at hb
    unfold frs at hb
    rw [List.filterMap_cons,hf] at hb
    exact hb
theorem Inv.stkFree (I:Inv X pins σ H s):∀ b ∈ frs X.stack,H b = none:=fun b hb => by
  rcases List.mem_cons.mp (I.stkSub b hb) with e | hb
  . rw [e]; exact I.free
  . obtain ⟨_,o,ho,_⟩:=I.ok.funs.mem hb
    exact I.base.free b o ho (I.ok.frf b hb) fun z => I.ok.exfs b z hb
theorem Inv.step {g':Array GenState} {t':Nat} {d':Drawn} {ch:List Addr} (I:Inv X pins σ H s)
    (hch:∀ b ∈ ch,(b ∈ X.ex ∨ X.s₀.heap.objs.size <= b) /\ b ≠ X.env.locals /\ (∀ x c,X.env.cells.lookup x = some c -> c ≠ b) /\ ∀ p ∈ X.pn ++ pins,p.1 ≠ b)
    (keep:∀ b o,b ≠ X.env.locals -> b ∉ X.fs -> b ∉ ch -> s.heap.get? b = some o -> H b = none -> h'.get? b = some o)
    (slot:∀ b o,b ≠ X.env.locals -> b ∈ X.fs -> b ∉ ch -> s.heap.get? b = some o -> H b = none -> ∃ sl,h'.get? b = some { o with slots:=sl }) (free:∀ b o,b ∉ ch -> s.heap.get? b = some o -> H b = none -> H' b = none)
    (there:∀ b o,b ∉ ch -> s.heap.get? b = some o -> ∃ o',h'.get? b = some o')
    (tups:∀ b xs,H b = some (.tup xs) -> H' b = some (.tup xs)) (frzs:∀ b o u,H b = some (.frz o u) -> H' b = some (.frz o u)) (tbls:∀ b ps,H b = some (.tbl ps) -> ∃ more,H' b = some (.tbl (ps ++ more)))
    (ns:∀ m,s.heap.Ns X.env.locals m -> h'.Ns X.env.locals m) (hok:HOk X.prog X.w H' h') (hg:AllBare g') :
    Inv X pins σ H' { s with heap:=h',gens:=g',drawn:=d',toks:=t' }:=by
  have neL:∀ b o,X.s₀.heap.get? b = some o -> b ≠ X.env.locals:=fun b o e => Nat.ne_of_lt (Nat.lt_of_lt_of_le (Heap.lt_size e) I.ok.above)
  have neC:∀ b o,X.s₀.heap.get? b = some o -> b ∉ X.ex -> b ∉ ch:=fun b o e hx hb => by
    rcases (hch b hb).1 with z | z
    . exact hx z
    . exact absurd (Nat.lt_of_lt_of_le (Heap.lt_size e) z) (Nat.lt_irrefl _)
  have cellK:∀ x c,X.env.cells.lookup x = some c -> ∀ v,s.heap.IsCell c v -> h'.IsCell c v:=fun x c e v ⟨o,ho,hd⟩ => by
    have nch:c ∉ ch:=fun z => (hch c z).2.2.1 x c e rfl
    by_cases hc:c ∈ X.fs
    . obtain ⟨sl,q⟩:=slot c o (I.cne x c e) hc nch ho (I.freeC x c e)
      exact ⟨_,q,hd⟩
    . exact ⟨o,keep c o (I.cne x c e) hc nch ho (I.freeC x c e),hd⟩
  refine ⟨I.ok,I.os,hg,⟨fun b o e n hb hx => ?_,fun b o e n hb hx => ?_,fun b o e n hx => ?_,fun b o e hx => ?_,fun b xs e => tups b xs (I.base.tups b xs e),fun b o xs e => frzs b o xs (I.base.frzs b o xs e),fun b ps e => ?_⟩,?_,fun x c e => ?_,?_,fun x c e => ?_,fun p hp => ?_,hok,I.len⟩
  . exact keep b o (neL b o e) hb (neC b o e hx) (I.base.keep b o e n hb hx) (I.base.free b o e n hx)
  . obtain ⟨sl,e1⟩:=I.base.slot b o e n hb hx
    obtain ⟨sl',e2⟩:=slot b _ (neL b o e) hb (neC b o e hx) e1 (I.base.free b o e n hx)
    exact ⟨sl',e2⟩
  . obtain ⟨o',e1⟩:=I.base.there b o e hx
    exact free b o' (neC b o e hx) e1 (I.base.free b o e n hx)
  . obtain ⟨o',e1⟩:=I.base.there b o e hx
    exact there b o' (neC b o e hx) e1
  . obtain ⟨m1,e1⟩:=I.base.tbls b ps e
    obtain ⟨m2,e2⟩:=tbls b _ e1
    exact ⟨m1 ++ m2,by rw [e2,Array.append_assoc]⟩
  . obtain ⟨m,hn,hl⟩:=I.loc
    refine ⟨m,ns m hn,fun i x v e1 e2 e3 => ?_⟩
    obtain ⟨u,r,l⟩:=hl i x v e1 e2 e3
    refine ⟨u,r,?_⟩
    rcases l with l | ⟨k,c,e,z⟩
    . exact .inl l
    . exact .inr ⟨k,c,e,cellK x c e _ z⟩
  . obtain ⟨v,z⟩:=I.cell x c e
    exact ⟨v,cellK x c e v z⟩
  . obtain ⟨m,⟨o,_,_,ho,_⟩,_⟩:=I.loc
    exact free _ o (fun z => (hch _ z).2.1 rfl) ho I.free
  . obtain ⟨v,o,ho,hd⟩:=I.cell x c e
    exact free c o (fun z => (hch c z).2.2.1 x c e rfl) ho (I.freeC x c e)
  . obtain ⟨e,n,ne,nf,d⟩:=I.pin p hp
    have nch:p.1 ∉ ch:=fun z => (hch p.1 z).2.2.2 p hp rfl
    exact ⟨keep p.1 p.2 ne nf nch e n,free p.1 p.2 nch e n,ne,nf,d⟩
theorem Inv.un {t':Nat} (I:Inv X pins σ H s) (u:Un X.fs [] H H' s.heap h') (hok:HOk X.prog X.w H' h'):Inv X pins σ H' { s with heap:=h',toks:=t' }:=by
  obtain ⟨m,⟨o,es,ep,ho,r⟩,_⟩:=id I.loc
  obtain ⟨sl,hL⟩:=u.any ho I.free (by simp)
  exact I.step (g':=s.gens) (d':=s.drawn) (ch:=[]) (fun _ z => nomatch z) (fun b o _ hb _ e n => u.keep b o e n hb (by simp)) (fun b o _ hb _ e n => u.slot b o e n hb (by simp)) (fun b o _ e n => u.free b o e n (by simp)) (fun b o _ e => u.there b o e (by simp)) u.tups u.frzs u.tbls (fun m' hm => by
    obtain ⟨o',es',ep',ho',r'⟩:=hm
    rw [ho] at ho'; cases ho'
    exact ⟨_,es',ep',hL,r'⟩) hok I.bare
theorem Inv.call {g':Array GenState} {t':Nat} {d':Drawn} {ch:List Addr} (I:Inv X pins σ H s) (u:Un (frs X.stack) ch H H' s.heap h') (hok:HOk X.prog X.w H' h') (hg:AllBare g')
    (hch:∀ b ∈ ch,(b ∈ X.ex ∨ X.s₀.heap.objs.size <= b) /\ b ≠ X.env.locals /\ (∀ x c,X.env.cells.lookup x = some c -> c ≠ b) /\ ∀ p ∈ X.pn ++ pins,p.1 ≠ b) :
    Inv X pins σ H' { s with heap:=h',gens:=g',drawn:=d',toks:=t' }:=by
  obtain ⟨m,⟨o,es,ep,ho,r⟩,_⟩:=id I.loc
  obtain ⟨sl,hL⟩:=u.any ho I.free fun z => (hch _ z).2.1 rfl
  exact I.step (ch:=ch) hch (fun b o hL hb hc e n => u.keep b o e n (fun z => (List.mem_cons.mp (I.stkSub b z)).elim hL hb) hc) (fun b o _ _ hc e n => u.any e n hc) (fun b o hc e n => u.free b o e n hc) (fun b o hc e => u.there b o e hc) u.tups u.frzs u.tbls (fun m' hm => by
    obtain ⟨o',es',ep',ho',r'⟩:=hm
    rw [ho] at ho'; cases ho'
    exact ⟨_,es',ep',hL,r'⟩) hok hg
theorem Inv.turned {t':Nat} {it:Addr} (I:Inv X pins σ H s) (k:∀ b o,b ≠ it -> s.heap.get? b = some o -> h'.get? b = some o) (hn:H it = none) (hL:it ≠ X.env.locals)
    (h1:it ∈ X.ex ∨ X.s₀.heap.objs.size <= it) (h2:∀ x c,X.env.cells.lookup x = some c -> c ≠ it) (h3:∀ p ∈ X.pn ++ pins,p.1 ≠ it):Inv X pins σ H { s with heap:=h',toks:=t' }:=by
  have nit:∀ b u,H b = some u -> b ≠ it:=fun b u e z => by rw [z,hn] at e; cases e
  refine I.step (g':=s.gens) (d':=s.drawn) (ch:=[it]) (fun b hb => ?_) (fun b o _ _ hc e _ => k b o (fun z => hc (by simp [z])) e) (fun b o _ _ hc e _ => ⟨o.slots,k b o (fun z => hc (by simp [z])) e⟩) (fun _ _ _ _ n => n)
    (fun b o hc e => ⟨o,k b o (fun z => hc (by simp [z])) e⟩) (fun _ _ e => e) (fun _ _ _ e => e) (fun b ps e => ⟨#[],by rw [e]; simp⟩) (fun m hm => ?_) (fun b u e => ?_) I.bare
  . have e:b = it:=by simpa using hb
    subst e
    exact ⟨h1,hL,h2,h3⟩
  . obtain ⟨o,es,ep,ho,r⟩:=hm
    exact ⟨o,es,ep,k _ o (Ne.symm hL) ho,r⟩
  . refine (I.hok b u e).stay (fun c v hc q => k c v ?_ q) (fun _ q => q) fun _ _ q => q
    rcases hc with z | z
    . rw [z]; exact nit b u e
    . exact nit c _ z
theorem Inv.tok (I:Inv X pins σ H s) (t:Nat):Inv X pins σ H { s with toks:=t }:=I.un (h':=s.heap) (t':=t) Un.refl I.hok
theorem Inv.kept {t':Nat} (I:Inv X pins σ H s) (k:∀ b u,s.heap.get? b = some u -> h'.get? b = some u):Inv X pins σ H { s with heap:=h',toks:=t' }:=I.un (Un.kept k) (I.hok.kept k)
theorem Inv.laid {a:Addr} {o:HO} {t':Nat} (I:Inv X pins σ H s) (k:∀ b u,s.heap.get? b = some u -> h'.get? b = some u) (hp:s.heap.objs.size <= a) (new:ObjOk X.prog X.w (upd H a o) h' a o) :
    Inv X pins σ (upd H a o) { s with heap:=h',toks:=t' }:=I.un (Un.laid k hp (I.hok.fresh hp)) (I.hok.laid k hp new)
theorem Inv.write {x e:Addr} {o:HO} {t':Nat} (I:Inv X pins σ H s) (mu:Mut (H x)) (he:e = x ∨ H e = some (.own x)) (k:∀ b u,b ≠ e -> s.heap.get? b = some u -> h'.get? b = some u) (heo:∃ u,h'.get? e = some u)
    (new:ObjOk X.prog X.w (upd H x o) h' x o):Inv X pins σ (upd H x o) { s with heap:=h',toks:=t' }:=I.un (Un.write mu he k heo) (I.hok.write mu he k heo new)
theorem Inv.pins_of {pins':List (Addr×Obj)} (I:Inv X pins σ H s) (h:∀ p ∈ pins',s.heap.get? p.1 = some p.2 /\ H p.1 = none /\ p.1 ≠ X.env.locals /\ p.1 ∉ X.fs /\ ∀ v,p.2.data ≠ .cell v):Inv X pins' σ H s :=
  ⟨I.ok,I.os,I.bare,I.base,I.loc,I.cell,I.free,I.freeC,fun p hp => (List.mem_append.mp hp).elim (fun z => I.pin p (List.mem_append_left _ z)) (h p),I.hok,I.len⟩
theorem nodup_ix {N:List Str} (hN:N.Nodup) {i j:Nat} {x:Str} (a:N[i]? = some x) (b:N[j]? = some x):i = j:=by
  obtain ⟨h1,e1⟩:=List.getElem?_eq_some_iff.mp a
  obtain ⟨h2,e2⟩:=List.getElem?_eq_some_iff.mp b
  exact (List.getElem_inj hN).mp (e1.trans e2.symm)
theorem store_ok2 {M:Model} {A:Around} {E:Value -> Shared -> Prop} {i:Nat} {x:Str} {v:V} {u:Value} {Q:Unit -> Shared -> Prop} (I:Inv X pins σ H s) (hN:X.N.Nodup) (hi:X.N[i]? = some x) (hx:Loc X.env.scope x) (r:RelV v u)
    (h:∀ s',Inv X pins (σ.set i (some v)) H s' -> (∃ a,Heap.SameBut a s.heap s'.heap /\ (a = X.env.locals ∨ X.env.cells.lookup x = some a)) -> Q () s') (hf:X.fn x = true ∨ X.env.scope.names.lookup x = some .local:=by first | exact .inl rfl | exact .inr rfl | assumption):wpAny M A (storeName X.env x u) Q E s:=by
  obtain ⟨m,hn,hl⟩:=id I.loc
  have hcls:(X.env.scope.kind == .class || (X.env.scope.kind == .module && X.env.locals != X.env.globals)) = false:=by rw [I.ok.kind]; rfl
  have hiσ:i < σ.length:=by rw [I.len]; exact (List.getElem?_eq_some_iff.mp hi).1
  have cne:=I.cne
  have tracked:∀ {a:Addr} {h':Heap},(∃ o,s.heap.get? a = some o /\ H a = none) -> Heap.SameBut a s.heap h' -> HOk X.prog X.w H h':=fun {a h'} ha hs b ob e => by
    obtain ⟨_,_,hfree⟩:=ha
    refine (I.hok b ob e).stay (fun c w' hc q => (hs.2 c ?_).trans q) (fun _ q => q) fun _ _ q => q
    rintro rfl
    rcases hc with rfl | hc
    . rw [hfree] at e; cases e
    . rw [hfree] at hc; cases hc
  rcases hx with hk | hk
  . refine wpAny_storeName_local hk hn (fun h' hn' hs => ?_) hcls
    obtain ⟨oL,_,_,hoL,_⟩:=id hn
    refine h _ ⟨I.ok,I.os,I.bare,⟨fun b o e n hb hx => ?_,fun b o e n hb hx => ?_,I.base.free,fun b o e hx => ?_,I.base.tups,I.base.frzs,I.base.tbls⟩,⟨_,hn',fun j y v' e1 e2 e3 => ?_⟩,fun y c e => ?_,I.free,I.freeC,fun p hp => ?_,tracked ⟨oL,hoL,I.free⟩ hs,by simpa using I.len⟩ ⟨_,hs,.inl rfl⟩
    . exact (hs.2 b (Nat.ne_of_lt (Nat.lt_of_lt_of_le (Heap.lt_size e) I.ok.above))).trans (I.base.keep b o e n hb hx)
    . obtain ⟨sl,e1⟩:=I.base.slot b o e n hb hx
      exact ⟨sl,(hs.2 b (Nat.ne_of_lt (Nat.lt_of_lt_of_le (Heap.lt_size e) I.ok.above))).trans e1⟩
    . obtain ⟨o',e1⟩:=I.base.there b o e hx
      exact ⟨o',(hs.2 b (Nat.ne_of_lt (Nat.lt_of_lt_of_le (Heap.lt_size e) I.ok.above))).trans e1⟩
    . by_cases hj:j = i
      . subst hj
        rw [hi] at e1; cases e1
        rw [List.getElem?_set_self hiσ] at e2
        cases e2
        exact ⟨u,r,.inl ⟨hk,by simp⟩⟩
      . rw [List.getElem?_set_ne (Ne.symm hj)] at e2
        obtain ⟨u',r',q⟩:=hl j y v' e1 e2 e3
        refine ⟨u',r',?_⟩
        rcases q with ⟨k,e⟩ | ⟨k,c,e,z⟩
        . refine .inl ⟨k,?_⟩
          have:y ≠ x:=fun e => hj (nodup_ix hN e1 (e ▸ hi))
          simp [this,e]
        . exact .inr ⟨k,c,e,z.sameBut hs (cne y c e)⟩
    . obtain ⟨w',z⟩:=I.cell y c e
      exact ⟨w',z.sameBut hs (cne y c e)⟩
    . obtain ⟨e,n,ne,nf,d⟩:=I.pin p hp
      exact ⟨(hs.2 p.1 ne).trans e,n,ne,nf,d⟩
  . have hfn:X.fn x = true:=by
      rcases hf with z | z
      . exact z
      . rw [z] at hk; cases hk
    obtain ⟨c,hc⟩:=I.ok.has x (.inl hk)
    obtain ⟨w',z⟩:=I.cell x c hc
    refine wpAny_storeName_cell I.ok.kind hk hc z (fun h' hc' hs => ?_)
    obtain ⟨oc,hoc,hocd⟩:=id z
    refine h { s with heap:=h' } ⟨I.ok,I.os,I.bare,⟨fun b o e n hb hx => ?_,fun b o e n hb hx => ?_,I.base.free,fun b o e hx => ?_,I.base.tups,I.base.frzs,I.base.tbls⟩,⟨m,hn.sameBut hs (Ne.symm (cne x c hc)),fun j y v' e1 e2 e3 => ?_⟩,fun y c' e => ?_,I.free,I.freeC,fun p hp => ?_,tracked ⟨oc,hoc,I.freeC x c hc⟩ hs,by simpa using I.len⟩ ⟨c,hs,.inr hc⟩
    . exact (hs.2 b (Nat.ne_of_lt (Nat.lt_of_lt_of_le (Heap.lt_size e) (I.ok.cab x c hfn hc)))).trans (I.base.keep b o e n hb hx)
    . obtain ⟨sl,e1⟩:=I.base.slot b o e n hb hx
      exact ⟨sl,(hs.2 b (Nat.ne_of_lt (Nat.lt_of_lt_of_le (Heap.lt_size e) (I.ok.cab x c hfn hc)))).trans e1⟩
    . obtain ⟨o',e1⟩:=I.base.there b o e hx
      exact ⟨o',(hs.2 b (Nat.ne_of_lt (Nat.lt_of_lt_of_le (Heap.lt_size e) (I.ok.cab x c hfn hc)))).trans e1⟩
    . by_cases hj:j = i
      . subst hj
        rw [hi] at e1; cases e1
        rw [List.getElem?_set_self hiσ] at e2
        cases e2
        exact ⟨u,r,.inr ⟨.inl hk,c,hc,hc'⟩⟩
      . rw [List.getElem?_set_ne (Ne.symm hj)] at e2
        obtain ⟨u',r',q⟩:=hl j y v' e1 e2 e3
        refine ⟨u',r',?_⟩
        rcases q with q | ⟨k,c',e,z'⟩
        . exact .inl q
        . refine .inr ⟨k,c',e,z'.sameBut hs ?_⟩
          rintro rfl
          exact hj (nodup_ix hN e1 (I.ok.inj _ _ _ e hc ▸ hi))
    . by_cases hcc:c' = c
      . subst hcc; exact ⟨_,hc'⟩
      . obtain ⟨w2,z2⟩:=I.cell y c' e
        exact ⟨w2,z2.sameBut hs hcc⟩
    . obtain ⟨e,n,ne,nf,d⟩:=I.pin p hp
      refine ⟨(hs.2 p.1 ?_).trans e,n,ne,nf,d⟩
      intro q
      rw [q,hoc] at e
      have q':oc = p.2:=Option.some.inj e
      exact d w' (by rw [← q']; exact hocd)
theorem store_ok {M:Model} {A:Around} {E:Value -> Shared -> Prop} {i:Nat} {x:Str} {v:V} {u:Value} {Q:Unit -> Shared -> Prop} (I:Inv X pins σ H s) (hN:X.N.Nodup) (hi:X.N[i]? = some x) (hx:Loc X.env.scope x) (r:RelV v u)
    (h:∀ s',Inv X pins (σ.set i (some v)) H s' -> Q () s') (hf:X.fn x = true ∨ X.env.scope.names.lookup x = some .local:=by first | exact .inl rfl | exact .inr rfl | assumption):wpAny M A (storeName X.env x u) Q E s :=
  store_ok2 I hN hi hx r (fun s' I' _ => h s' I') hf
theorem Inv.call' {s':Shared} {ch:List Addr} (I:Inv X pins σ H s) (ho:s'.os = s.os) (u:Un (frs X.stack) ch H H' s.heap s'.heap) (hok:HOk X.prog X.w H' s'.heap) (hg:AllBare s'.gens)
    (hch:∀ b ∈ ch,(b ∈ X.ex ∨ X.s₀.heap.objs.size <= b) /\ b ≠ X.env.locals /\ (∀ x c,X.env.cells.lookup x = some c -> c ≠ b) /\ ∀ p ∈ X.pn ++ pins,p.1 ≠ b):Inv X pins σ H' s':=by
  obtain ⟨h',g',d',t',o'⟩:=s'
  have e:o' = s.os:=ho
  subst e
  exact I.call (g':=g') (t':=t') (d':=d') u hok hg hch
end
noncomputable abbrev XK:=Value -> Option Addr -> Hp -> Prop
noncomputable abbrev St:=List (Option V)
noncomputable abbrev VK:=V -> Hp -> Prop
noncomputable abbrev TE:=St -> Hp -> VK -> Prop
noncomputable abbrev TT:=St -> Hp -> (Bool -> Hp -> Prop) -> Prop
noncomputable abbrev TA:=St -> Hp -> (List V -> Hp -> Prop) -> Prop
structure Ends where
  nx:St -> Hp -> Prop
  rt:VK
  bk:St -> Hp -> Prop:=fun _ _ => False
  ct:St -> Hp -> Prop:=fun _ _ => False
noncomputable abbrev TS:=Ends -> St -> Hp -> Prop
noncomputable def EP (X:Cx) (pins:List (Addr×Obj)) (σ:St) (Q:VK) (u:Value) (s':Shared):Prop:=∃ v H',Inv X pins σ H' s' /\ RelV v u /\ Q v H'
noncomputable def TP (X:Cx) (pins:List (Addr×Obj)) (σ:St) (Q:Bool -> Hp -> Prop) (b:Bool) (s':Shared):Prop:=∃ H',Inv X pins σ H' s' /\ Q b H'
noncomputable def AP (X:Cx) (pins:List (Addr×Obj)) (σ:St) (Q:List V -> Hp -> Prop) (us:List Value) (s':Shared):Prop:=∃ vs H',Inv X pins σ H' s' /\ Vals vs us /\ Q vs H'
noncomputable def SP (X:Cx) (pins:List (Addr×Obj)) (D:Ends) (f:Flow) (s':Shared):Prop :=
  match f with
  | .next => ∃ σ' H',Inv X pins σ' H' s' /\ D.nx σ' H'
  | .brk => ∃ σ' H',Inv X pins σ' H' s' /\ D.bk σ' H'
  | .cont => ∃ σ' H',Inv X pins σ' H' s' /\ D.ct σ' H'
  | .ret u => ∃ v σ' H',Inv X pins σ' H' s' /\ RelV v u /\ D.rt v H'
noncomputable def PE (X:Cx) (e:Expr) (t:TE):Prop :=
  ∀ (pins:List (Addr×Obj)) (s:Shared) (σ:St) (H:Hp) (Q:VK),Inv X pins σ H s -> t σ H Q -> wpAny (model X.prog X.w) X.A (eval e X.env) (EP X pins σ Q) X.xe s
noncomputable def PT (X:Cx) (e:Expr) (t:TT):Prop :=
  ∀ (pins:List (Addr×Obj)) (s:Shared) (σ:St) (H:Hp) (Q:Bool -> Hp -> Prop),Inv X pins σ H s -> t σ H Q -> wpAny (model X.prog X.w) X.A (isTrue e X.env (eval e X.env)) (TP X pins σ Q) X.xe s
noncomputable def PW (X:Cx) (e:Expr) (t:TT):Prop :=
  ∀ (whole:Sem Value) (pins:List (Addr×Obj)) (s:Shared) (σ:St) (H:Hp) (Q:Bool -> Hp -> Prop),Inv X pins σ H s -> t σ H Q -> wpAny (model X.prog X.w) X.A (isTrue e X.env whole) (TP X pins σ Q) X.xe s
theorem PW.pt {X:Cx} {e:Expr} {t:TT} (h:PW X e t):PT X e t:=h _
noncomputable def PA (X:Cx) (es:List Expr) (t:TA):Prop :=
  ∀ (pos:Pos) (pins:List (Addr×Obj)) (s:Shared) (σ:St) (H:Hp) (Q:List V -> Hp -> Prop),Inv X pins σ H s -> t σ H Q -> wpAny (model X.prog X.w) X.A (spliced (backTo pos (starEach es X.env))) (AP X pins σ Q) X.xe s
noncomputable def PS (X:Cx) (st:Stmt) (t:TS):Prop :=
  ∀ (pins:List (Addr×Obj)) (s:Shared) (σ:St) (H:Hp) (D:Ends),Inv X pins σ H s -> t D σ H -> wpAny (model X.prog X.w) X.A (exec st X.env) (SP X pins D) X.xe s
noncomputable def PSs (X:Cx) (st:List Stmt) (t:TS):Prop :=
  ∀ (pins:List (Addr×Obj)) (s:Shared) (σ:St) (H:Hp) (D:Ends),Inv X pins σ H s -> t D σ H -> wpAny (model X.prog X.w) X.A (execs st X.env) (SP X pins D) X.xe s
theorem thn {α:Type} {t:Sem α} {Q Q':α -> Shared -> Prop} {M:Model} {A:Around} {E:Value -> Shared -> Prop} {s:Shared} (h:wpAny M A t Q E s) (hQ:∀ a s,Q a s -> Q' a s):wpAny M A t Q' E s:=wpAny_mono h hQ fun _ _ x => x
end L2
namespace L2
open PySem PySem.Spec PyProof.Rows
section
variable {X:Cx}
noncomputable def tVar (i:Nat):TE:=fun σ H Q => ∃ v,σ[i]? = some (some v) /\ Q v H
noncomputable def tC (v:V):TE:=fun _ H Q => Q v H
theorem pe_var {i:Nat} {x:Str} {pos:Pos} (hN:X.N[i]? = some x) (hv:Vis X.env.scope x) (hd:(x == ("__debug__":Str)) = false:=by decide) (hcd:(x == ("__classdict__":Str)) = false:=by decide):PE X (.Name x pos) (tVar i):=by
  intro pins s σ H Q I h
  obtain ⟨v,e,h⟩:=h
  obtain ⟨m,hn,hl⟩:=I.loc
  obtain ⟨u,r,l⟩:=hl i x v hN e hv
  have fin:EP X pins σ Q u s:=⟨v,H,I,r,h⟩
  rcases l with ⟨hk,hm⟩ | ⟨hk,c,hc,hcell⟩
  . exact wpAny_Name (wpAny_loadName_local I.ok.kind hk hn hm fin) hd
  . rcases hk with hk | hk
    . exact wpAny_Name (wpAny_loadName_cell I.ok.kind hk hc hcell fin) hd
    . exact wpAny_Name (wpAny_loadName_free I.ok.kind hk hc hcell fin hcd) hd
theorem pe_int {i j pos}:PE X (.Constant (.int i) j pos) (tC (.int i)):=fun _ _ _ H _ I h => wpAny_Constant_int ⟨.int i,H,I.tok _,⟨_,rfl⟩,h⟩
theorem pe_bl {b j pos}:PE X (.Constant (.bool b) j pos) (tC (.bl b)):=fun _ _ _ H _ I h => Constant_bool ⟨.bl b,H,I,rfl,h⟩
theorem pe_non {j pos}:PE X (.Constant .none j pos) (tC .non):=fun _ _ _ H _ I h => Constant_none ⟨.non,H,I,rfl,h⟩
theorem pe_str {x j pos}:PE X (.Constant (.str x) j pos) (tC (.str x)):=fun _ _ _ H _ I h => Calls.Constant_str ⟨.str x,H,I.tok _,⟨_,rfl⟩,h⟩
noncomputable def Gl (X:Cx) (x:Str):Prop:=X.env.kindOf x = some .globalImplicit
theorem ld_glob {E:Value -> Shared -> Prop} {pins:List (Addr×Obj)} {s:Shared} {σ:St} {H:Hp} {x:Str} {u:Value} {pos:Pos} {Q:Value -> Shared -> Prop} (I:Inv X pins σ H s) (hg:Gl X x) (hm:X.mg x = some u) (h:Q u s)
    (hd:(x == ("__debug__":Str)) = false:=by decide):wpAny (model X.prog X.w) X.A (eval (.Name x pos) X.env) Q E s :=
  Calls.Name_function_global I.ok.kind hg (Calls.loadGlobal_global (by rw [I.ok.glob]; exact I.mod.glob.keeps I.bk) hm h) hd
theorem ld_blt {E:Value -> Shared -> Prop} {pins:List (Addr×Obj)} {s:Shared} {σ:St} {H:Hp} {x:Str} {u:Value} {pos:Pos} {Q:Value -> Shared -> Prop} (I:Inv X pins σ H s) (hg:Gl X x) (hm:X.mg x = none) (hv:bootBuiltins x = some u) (h:Q u s)
    (hn:x ≠ "__name__":=by decide) (hd:(x == ("__debug__":Str)) = false:=by decide):wpAny (model X.prog X.w) X.A (eval (.Name x pos) X.env) Q E s:=by
  obtain ⟨mb,h1,h2⟩:=I.mod.blt
  exact Calls.Name_function_global I.ok.kind hg (Calls.loadGlobal_builtin (by rw [I.ok.glob]; exact I.mod.glob.keeps I.bk) hm (by rw [I.ok.blt]; exact h1.keeps I.bk) ((h2 x hn).trans hv) h) hd
theorem pe_glob {x:Str} {v:V} {u:Value} {pos:Pos} (hg:Gl X x) (hm:X.mg x = some u) (r:RelV v u) (hd:(x == ("__debug__":Str)) = false:=by decide):PE X (.Name x pos) (tC v) :=
  fun _ _ _ H _ I h => ld_glob I hg hm ⟨v,H,I,r,h⟩ hd
theorem pe_bltn {x:Str} {v:V} {u:Value} {pos:Pos} (hg:Gl X x) (hm:X.mg x = none) (hv:bootBuiltins x = some u) (r:RelV v u) (hn:x ≠ "__name__":=by decide) (hd:(x == ("__debug__":Str)) = false:=by decide):PE X (.Name x pos) (tC v) :=
  fun _ _ _ H _ I h => ld_blt I hg hm hv ⟨v,H,I,r,h⟩ hn hd
variable {a b:Expr} {ta tb:TE} {pos:Pos}
noncomputable def tB (t:TE):TT:=fun σ H Q => t σ H fun x H1 => ∃ c,x = .bl c /\ Q c H1
theorem pt_val {e:Expr} {t:TE} (h:PE X e t) (he:∀ whole,isTrue e X.env whole = (do let v ← whole; standAt e.pos; holding [v] (truthy v)):=by intro _; rfl):PT X e (tB t):=by
  intro pins s σ H Q I hw
  refine isTrue_plain (thn (h pins s σ H _ I hw) fun v s1 ⟨x,H1,I1,r1,q1⟩ => ?_) (he _)
  obtain ⟨d,rfl,q⟩:=q1
  cases r1
  exact wpAny_truthy_bool ⟨H1,I1,q⟩
variable {tA tB':TT} {rest:List Expr}
noncomputable def tAnd (t u:TT):TT:=fun σ H Q => t σ H fun c H1 => if c = true then u σ H1 Q else Q false H1
noncomputable def tOr (t u:TT):TT:=fun σ H Q => t σ H fun c H1 => if c = true then Q true H1 else u σ H1 Q
noncomputable def tNot (t:TT):TT:=fun σ H Q => t σ H fun c H1 => Q (!c) H1
theorem pw_and1 (ha:PT X a tA):PW X (.BoolOp .And [a] pos) tA:=by
  intro wh pins s σ H Q I h
  refine isTrue_and (thn (ha pins s σ H Q I h) fun c s1 e => ?_)
  cases c with
  | true => exact isTrue_and_nil e
  | false => exact e
theorem pw_or1 (ha:PT X a tA):PW X (.BoolOp .Or [a] pos) tA:=by
  intro wh pins s σ H Q I h
  refine isTrue_or (thn (ha pins s σ H Q I h) fun c s1 e => ?_)
  cases c with
  | false => exact isTrue_or_nil e
  | true => exact e
theorem pw_and (ha:PT X a tA) (hb:PW X (.BoolOp .And (b :: rest) pos) tB'):PW X (.BoolOp .And (a :: b :: rest) pos) (tAnd tA tB'):=by
  intro wh pins s σ H Q I h
  refine isTrue_and (thn (ha pins s σ H _ I h) fun c s1 ⟨H1,I1,q1⟩ => ?_)
  cases c with
  | true => exact hb wh pins s1 σ H1 Q I1 q1
  | false => exact ⟨H1,I1,q1⟩
theorem pw_or (ha:PT X a tA) (hb:PW X (.BoolOp .Or (b :: rest) pos) tB'):PW X (.BoolOp .Or (a :: b :: rest) pos) (tOr tA tB'):=by
  intro wh pins s σ H Q I h
  refine isTrue_or (thn (ha pins s σ H _ I h) fun c s1 ⟨H1,I1,q1⟩ => ?_)
  cases c with
  | true => exact ⟨H1,I1,q1⟩
  | false => exact hb wh pins s1 σ H1 Q I1 q1
theorem pt_not (ha:PT X a tA):PT X (.UnaryOp .Not a pos) (tNot tA):=by
  intro pins s σ H Q I h
  exact isTrue_not (ha pins s σ H (fun c H1 => Q (!c) H1) I h)
noncomputable def tAndV (ta tb:TE):TE:=fun σ H Q => ta σ H fun x H1 => ∃ c,x = .bl c /\ if c = true then tb σ H1 Q else Q (.bl false) H1
noncomputable def tNotV (ta:TE):TE:=fun σ H Q => ta σ H fun x H1 => ∃ c,x = .bl c /\ Q (.bl (!c)) H1
theorem pe_one {op} {t:TE} (h:PE X a t):PE X (.BoolOp op [a] pos) t:=fun pins s σ H Q I hw => BoolOp_one (h pins s σ H Q I hw)
theorem pe_and (ha:PE X a ta) (hb:PE X (.BoolOp .And (b :: rest) pos) tb):PE X (.BoolOp .And (a :: b :: rest) pos) (tAndV ta tb):=by
  intro pins s σ H Q I h
  refine BoolOp_and (thn (ha pins s σ H _ I h) fun v s1 ⟨x,H1,I1,r1,q1⟩ => ?_)
  obtain ⟨c,rfl,q1⟩:=q1
  cases r1
  refine wpAny_truthy_bool ?_
  cases c with
  | true => exact hb pins s1 σ H1 Q I1 q1
  | false => exact ⟨.bl false,H1,I1,rfl,q1⟩
theorem pe_not (ha:PE X a ta):PE X (.UnaryOp .Not a pos) (tNotV ta):=by
  intro pins s σ H Q I h
  refine UnaryOp_ (thn (ha pins s σ H _ I h) fun v s1 ⟨x,H1,I1,r1,q1⟩ => ?_)
  obtain ⟨c,rfl,q1⟩:=q1
  cases r1
  exact not_of (wpAny_truthy_bool ⟨.bl (!c),H1,I1,rfl,q1⟩)
noncomputable def tIf (t:TT) (ta tb:TE):TE:=fun σ H Q => t σ H fun c H1 => if c = true then ta σ H1 Q else tb σ H1 Q
theorem pe_ifExp {c:Expr} (hc:PT X c tA) (ha:PE X a ta) (hb:PE X b tb):PE X (.IfExp c a b pos) (tIf tA ta tb):=by
  intro pins s σ H Q I h
  refine wpAny_IfExp (thn (hc pins s σ H _ I h) fun d s1 ⟨H1,I1,q1⟩ => ?_)
  cases d with
  | true => exact ha pins s1 σ H1 Q I1 q1
  | false => exact hb pins s1 σ H1 Q I1 q1
end
end L2
namespace L2
open PySem PySem.Spec PyProof.Rows
noncomputable def SqL (K:PySem.W.Frag) (H:Hp) (a:Addr) (xs:List V):Prop :=
  Rd H a (.lst xs) ∨
    ∃ (o:Obj) (its:Array Value) (n:Nat),K.lookup a = some o /\ o.cls = .type "list" /\ o.dict = none /\ o.data = .seq its n /\ its.size <= sizeLine /\ Vals xs its.toList
noncomputable def SqT (K:PySem.W.Frag) (H:Hp) (a:Addr) (xs:List V):Prop :=
  Rd H a (.tup xs) ∨
    ∃ (o:Obj) (its:Array Value) (n:Nat),K.lookup a = some o /\ o.cls = .type "tuple" /\ o.data = .seq its n /\ its.size <= sizeLine /\ Vals xs its.toList
noncomputable def absV:Value -> Option V
  | .none => some .non
  | .bool b => some (.bl b)
  | .int i _ => some (.int i)
  | .str x _ => some (.str x)
  | .bytes b _ => some (.byt b)
  | .float b _ => some (.flt b)
  | .ref a => some (.ref a)
  | .type n => some (.ty n)
  | _ => none
theorem RelV.abs {x:V} {u:Value} (r:RelV x u):absV u = some x:=by
  cases x with
  | non => cases r; rfl
  | bl _ => cases r; rfl
  | int _ => obtain ⟨t,rfl⟩:=r; rfl
  | str _ => obtain ⟨t,rfl⟩:=r; rfl
  | byt _ => obtain ⟨t,rfl⟩:=r; rfl
  | flt _ => obtain ⟨t,rfl⟩:=r; rfl
  | ref _ => cases r; rfl
  | ty _ => cases r; rfl
theorem RelV.inj {x y:V} {u:Value} (r:RelV x u) (q:RelV y u):x = y:=Option.some.inj (r.abs.symm.trans q.abs)
theorem Vals.inj:∀ {xs ys:List V} {us:List Value},Vals xs us -> Vals ys us -> xs = ys
  | _,_,_,.nil,.nil => rfl
  | _,_,_,.cons r t,.cons r' t' => by rw [r.inj r',Vals.inj t t']
section
variable {X:Cx} {pins:List (Addr×Obj)} {σ:St} {H:Hp} {s:Shared} {a:Addr} {xs ys:List V}
theorem SqL.of {K:PySem.W.Frag} (h:H a = some (.lst xs)):SqL K H a xs:=.inl (.inl h)
theorem SqT.of {K:PySem.W.Frag} (h:H a = some (.tup xs)):SqT K H a xs:=.inl (.inl h)
theorem Inv.list (I:Inv X pins σ H s) (h:SqL X.K H a xs):∃ its:List Value,Vals xs its /\ PlainL s.heap a its.toArray /\ xs.length <= sizeLine:=by
  rcases h with h | ⟨o,its,n,hk,hc,hd,hs,hz,r⟩
  . obtain ⟨z,its,n,r,e⟩:=h.ok I.hok
    exact ⟨its,r,⟨_,n,e,rfl,rfl,rfl⟩,z⟩
  . refine ⟨its.toList,r,⟨o,n,I.kIn a o hk,hc,hd,by simpa using hs⟩,?_⟩
    have e:=r.length
    simp only [Array.length_toList] at e
    omega
theorem Inv.tuple (I:Inv X pins σ H s) (h:SqT X.K H a xs):∃ its:List Value,Vals xs its /\ IsTup s.heap a its.toArray /\ xs.length <= sizeLine:=by
  rcases h with h | ⟨o,its,n,hk,hc,hs,hz,r⟩
  . obtain ⟨z,its,r,p⟩:=h.ok I.hok
    exact ⟨its,r,p,z.1⟩
  . refine ⟨its.toList,r,⟨o,I.kIn a o hk,hc,n,by simpa using hs⟩,?_⟩
    have e:=r.length
    simp only [Array.length_toList] at e
    omega
theorem Inv.list_inj (I:Inv X pins σ H s) (h:SqL X.K H a xs) (h':SqL X.K H a ys):xs = ys:=by
  obtain ⟨its,r,⟨o,n,e,_,_,d⟩,_⟩:=I.list h
  obtain ⟨its',r',⟨o',n',e',_,_,d'⟩,_⟩:=I.list h'
  rw [e] at e'; cases e'
  rw [d] at d'
  injection d' with d1 _
  have:its = its':=by simpa using congrArg Array.toList d1
  subst this
  exact r.inj r'
end
noncomputable abbrev Cx.wish (X:Cx) (E:Value -> Shared -> Prop):Cx:={ X with xe:=E }
noncomputable abbrev Cx.nox (X:Cx):Cx:=X.wish fun _ _ => False
theorem Cx.Ok.wish {X:Cx} (ok:X.Ok) (E:Value -> Shared -> Prop):(X.wish E).Ok :=
  ⟨ok.mod,ok.kind,ok.glob,ok.blt,ok.above,ok.inj,ok.has,ok.cab,ok.hd,ok.frames,ok.stk,ok.exf,ok.bs,ok.bsz,ok.noex,ok.exfs,ok.funs,ok.frf⟩
theorem Cx.Ok.unwish {X:Cx} {E:Value -> Shared -> Prop} (ok:(X.wish E).Ok):X.Ok :=
  ⟨ok.mod,ok.kind,ok.glob,ok.blt,ok.above,ok.inj,ok.has,ok.cab,ok.hd,ok.frames,ok.stk,ok.exf,ok.bs,ok.bsz,ok.noex,ok.exfs,ok.funs,ok.frf⟩
section
variable {X:Cx} {pins:List (Addr×Obj)} {σ:St} {H:Hp} {s:Shared} {E:Value -> Shared -> Prop}
theorem Inv.wish (I:Inv X pins σ H s) (E:Value -> Shared -> Prop):Inv (X.wish E) pins σ H s:=⟨I.ok.wish E,I.os,I.bare,I.base,I.loc,I.cell,I.free,I.freeC,I.pin,I.hok,I.len⟩
theorem Inv.unwish (I:Inv (X.wish E) pins σ H s):Inv X pins σ H s:=⟨I.ok.unwish,I.os,I.bare,I.base,I.loc,I.cell,I.free,I.freeC,I.pin,I.hok,I.len⟩
theorem SP.unwish {D:Ends} {f:Flow} {s':Shared} (h:SP (X.wish E) pins D f s'):SP X pins D f s':=by
  cases f with
  | next => obtain ⟨σ',H',I,q⟩:=h; exact ⟨σ',H',I.unwish,q⟩
  | brk => obtain ⟨σ',H',I,q⟩:=h; exact ⟨σ',H',I.unwish,q⟩
  | cont => obtain ⟨σ',H',I,q⟩:=h; exact ⟨σ',H',I.unwish,q⟩
  | ret u => obtain ⟨v,σ',H',I,r,q⟩:=h; exact ⟨v,σ',H',I.unwish,r,q⟩
theorem PSs.nox {st:List Stmt} {t:TS} (h:PSs X.nox st t):PSs X st t:=fun pins s σ H D I hw =>
  wpAny_mono (h pins s σ H D (I.wish _) hw) (fun _ _ q => q.unwish) fun _ _ z => False.elim z
end
section
variable {X:Cx} {st:Stmt} {rest:List Stmt} {t u:TS} {e:Expr} {te:TE} {pos:Pos}
noncomputable def tNext:TS:=fun D σ H => D.nx σ H
noncomputable def tSeq (t u:TS):TS:=fun D σ H => t { D with nx:=u D } σ H
theorem pss_nil:PSs X [] tNext:=fun _ _ σ H _ I h => wpAny_execs_nil ⟨σ,H,I,h⟩
theorem pss_cons (h1:PS X st t) (h2:PSs X rest u):PSs X (st :: rest) (tSeq t u):=by
  intro pins s σ H D I h
  refine wpAny_execs_cons (thn (h1 pins s σ H { D with nx:=u D } I h) fun f s1 q => ?_)
  cases f with
  | next =>
    obtain ⟨σ',H',I',q⟩:=q
    exact h2 pins s1 σ' H' D I' q
  | ret v => exact q
  | brk => exact q
  | cont => exact q
theorem pss_one (h1:PS X st t):PSs X [st] t:=by
  intro pins s σ H D I h
  refine wpAny_execs_cons (thn (h1 pins s σ H D I h) fun f s1 q => ?_)
  cases f with
  | next => exact wpAny_execs_nil q
  | ret v => exact q
  | brk => exact q
  | cont => exact q
theorem Inv.quiet {pins:List (Addr×Obj)} {σ:St} {H:Hp} {s:Shared} (I:Inv X pins σ H s):interactive X.env = false:=by simp [interactive,I.ok.kind]
noncomputable def tDrop (te:TE):TS:=fun D σ H => te σ H fun _ H1 => D.nx σ H1
theorem ps_expr (he:PE X e te) (hs:swapsWith e none pos.line X.env = pure false:=by rfl):PS X (.Expr e pos) (tDrop te):=by
  intro pins s σ H D I h
  exact wpAny_Expr_any (thn (he pins s σ H _ I h) fun v s1 ⟨x,H1,I1,r1,q1⟩ => ⟨σ,H1,I1,q1⟩) I.quiet hs
noncomputable def tRet (te:TE):TS:=fun D σ H => te σ H D.rt
theorem ps_ret (he:PE X e te):PS X (.Return (some e) pos) (tRet te):=by
  intro pins s σ H D I h
  exact wpAny_Return_some (thn (he pins s σ H _ I h) fun v s1 ⟨x,H1,I1,r1,q1⟩ => ⟨x,σ,H1,I1,r1,q1⟩)
noncomputable def tIfS (c:TT) (t u:TS):TS:=fun D σ H => c σ H fun b H1 => if b = true then t D σ H1 else u D σ H1
theorem ps_if {c:Expr} {a b:List Stmt} {tc:TT} (hc:PT X c tc) (ha:PSs X a t) (hb:PSs X b u):PS X (.If c a b pos) (tIfS tc t u):=by
  intro pins s σ H D I h
  refine wpAny_If (thn (hc pins s σ H _ I h) fun d s1 ⟨H1,I1,q1⟩ => ?_)
  cases d with
  | true => exact ha pins s1 σ H1 D I1 q1
  | false => exact hb pins s1 σ H1 D I1 q1
noncomputable def tNever:TS:=fun _ _ _ => False
theorem ps_never:PS X st tNever:=fun _ _ _ _ _ _ h => h.elim
end
noncomputable abbrev TG:=V -> St -> Hp -> (St -> Hp -> Prop) -> Prop
noncomputable abbrev TGs:=List V -> St -> Hp -> (St -> Hp -> Prop) -> Prop
noncomputable def PG (X:Cx) (target:Expr) (t:TG):Prop :=
  ∀ (pins:List (Addr×Obj)) (s:Shared) (σ:St) (H:Hp) (v:V) (u:Value) (Q:St -> Hp -> Prop),Inv X pins σ H s -> RelV v u -> t v σ H Q ->
    wpAny (model X.prog X.w) X.A (assign target X.env u) (fun _ s' => ∃ σ' H',Inv X pins σ' H' s' /\ Q σ' H') X.xe s
noncomputable def PGs (X:Cx) (ts:List Expr) (t:TGs):Prop :=
  ∀ (pins:List (Addr×Obj)) (s:Shared) (σ:St) (H:Hp) (vs:List V) (us:List Value) (Q:St -> Hp -> Prop),Inv X pins σ H s -> Vals vs us -> t vs σ H Q ->
    wpAny (model X.prog X.w) X.A (assignInOrder ((assignEach ts X.env).map (·.2)) us) (fun _ s' => ∃ σ' H',Inv X pins σ' H' s' /\ Q σ' H') X.xe s
section
variable {X:Cx} {pos:Pos}
noncomputable def gName (i:Nat):TG:=fun v σ H Q => Q (σ.set i (some v)) H
theorem pg_name {i:Nat} {x:Str} (hN:X.N.Nodup) (hi:X.N[i]? = some x) (hx:Loc X.env.scope x) (hf:X.fn x = true ∨ X.env.scope.names.lookup x = some .local:=by first | exact .inl rfl | exact .inr rfl | assumption):PG X (.Name x pos) (gName i):=by
  intro pins s σ H v u Q I r h
  exact wpAny_assign_Name (store_ok I hN hi hx r (fun s' I' => ⟨_,H,I',h⟩) hf)
noncomputable def gNil:TGs:=fun vs σ H Q => vs = [] /\ Q σ H
noncomputable def gCons (t:TG) (u:TGs):TGs:=fun vs σ H Q => ∃ v r,vs = v :: r /\ t v σ H fun σ' H' => u r σ' H' Q
theorem pgs_nil:PGs X [] gNil:=by
  intro pins s σ H vs us Q I r h
  obtain ⟨e,h⟩:=h
  subst e
  cases r
  exact assignInOrder_nil ⟨σ,H,I,h⟩
theorem pgs_cons {e:Expr} {es:List Expr} {t:TG} {u:TGs} (h1:PG X e t) (h2:PGs X es u)
    (hs:(assignEach (e :: es) X.env).map (·.2) = assign e X.env :: (assignEach es X.env).map (·.2):=by rfl):PGs X (e :: es) (gCons t u):=by
  intro pins s σ H vs us Q I r h
  obtain ⟨v,vr,e1,h⟩:=h
  subst e1
  cases r with
  | cons r rr =>
    rw [hs]
    refine assignInOrder_cons (thn (h1 pins s σ H _ _ _ I r h) fun _ s1 ⟨σ1,H1,I1,q1⟩ => ?_)
    exact h2 pins s1 σ1 H1 _ _ Q I1 rr q1
noncomputable def gTup (K:PySem.W.Frag) (n:Nat) (t:TGs):TG:=fun v σ H Q => ∃ a xs,v = .ref a /\ SqT K H a xs /\ xs.length = n /\ t xs σ H Q
theorem pg_tup {es:List Expr} {k:Nat} {t:TGs} {n:Nat} (hc:X.calm = true) (h:PGs X es t)
    (hn:(assignEach es X.env).length = n:=by rfl) (hst:(assignEach es X.env).findIdx? (·.1) = none:=by rfl):PG X (.Tuple es k pos) (gTup X.K n t):=by
  intro pins s σ H v u Q I r hw
  obtain ⟨a,xs,e1,hq,hl,hw⟩:=hw
  subst e1
  cases r
  obtain ⟨its,rv,ht,hz⟩:=I.tuple hq
  refine assign_Tuple_tuple (I.ok.hd hc) ht (by simp [hn,← hl,rv.length]) hst fun h' hx => ?_
  have I1:Inv X pins σ H { s with heap:=h' }:=I.kept (t':=s.toks) fun b o e => hx b o (Nat.ne_of_lt (Heap.lt_size e)) e
  exact h pins _ σ H xs _ Q I1 (by simpa using rv) hw
noncomputable def tAsg (te:TE) (g:TG):TS:=fun D σ H => te σ H fun x H1 => g x σ H1 D.nx
theorem ps_asg {tg e:Expr} {te:TE} {g:TG} (he:PE X e te) (hg:PG X tg g) (hs:swapsWithSole [tg] e pos.line X.env = pure false:=by rfl) (hw:swappedStores [tg] e X.env = pure none:=by rfl)
    (h1:(assignEach [tg] X.env).map (·.2) = [assign tg X.env]:=by rfl):PS X (.Assign [tg] e pos) (tAsg te g):=by
  intro pins s σ H D I h
  refine wpAny_Assign_stores (thn (he pins s σ H _ I h) fun v s1 ⟨x,H1,I1,r1,q1⟩ => ?_) hs hw
  rw [h1]
  exact thn (hg pins s1 σ H1 x v _ I1 r1 q1) fun _ s2 q => q
theorem ps_set {i:Nat} {x:Str} {e:Expr} {te:TE} {pos':Pos} (hN:X.N.Nodup) (hi:X.N[i]? = some x) (hx:Loc X.env.scope x) (he:PE X e te) (hs:swapsWith e (some (.Name x pos')) pos.line X.env = pure false:=by rfl) (hf:X.fn x = true ∨ X.env.scope.names.lookup x = some .local:=by first | exact .inl rfl | exact .inr rfl | assumption) :
    PS X (.Assign [.Name x pos'] e pos) (tAsg te (gName i)):=by
  intro pins s σ H D I h
  refine wpAny_Assign_Name (thn (he pins s σ H _ I h) fun v s1 ⟨y,H1,I1,r1,q1⟩ => ?_) hs
  exact store_ok I1 hN hi hx r1 (fun s2 I2 => ⟨_,H1,I2,q1⟩) hf
noncomputable def tPar (i j:Nat) (ta:TA):TS:=fun D σ H => ta σ H fun vs H1 => ∃ v w,vs = [v,w] /\ D.nx ((σ.set i (some v)).set j (some w)) H1
theorem ps_par {i j:Nat} {x y:Str} {a b:Expr} {ta:TA} {px py pt:Pos} {kt k2 pt2} (hc:X.calm = true) (hN:X.N.Nodup) (hi:X.N[i]? = some x) (hj:X.N[j]? = some y) (hij:i ≠ j)
    (hx:X.env.scope.names.lookup x = some .local) (hy:X.env.scope.names.lookup y = some .local) (ha:PA X [a,b] ta)
    (hw:swappedStores [.Tuple [.Name x px,.Name y py] kt pt] (.Tuple [a,b] k2 pt2) X.env = pure (some [x,y]))
    (hs:swapsWithSole [.Tuple [.Name x px,.Name y py] kt pt] (.Tuple [a,b] k2 pt2) pos.line X.env = pure false:=by rfl) :
    PS X (.Assign [.Tuple [.Name x px,.Name y py] kt pt] (.Tuple [a,b] k2 pt2) pos) (tPar i j ta):=by
  intro pins s σ H D I h
  rw [exec_Assign_arm]
  refine wpAny_bind (wpAny_standAt ?_)
  rw [hs]
  refine wpAny_bind (wpAny_pure ?_)
  rw [if_neg (by decide)]
  refine wpAny_bind (Tuple_ (thn (ha _ pins s σ H _ I h) fun us s1 ⟨vs,H1,I1,r1,q1⟩ => ?_))
  obtain ⟨v,w,e1,q1⟩:=q1
  subst e1
  obtain ⟨u1,u2,rfl,rv,rw'⟩:∃ u1 u2,us = [u1,u2] /\ RelV v u1 /\ RelV w u2:=by
    cases r1 with
    | cons p q =>
      cases q with
      | cons p' q' =>
        cases q'
        exact ⟨_,_,rfl,p,p'⟩
  refine wpAny_newObj_type ?_ (by show 2 <= sizeLine; decide)
  have I2:Inv X pins σ H1 { s1 with heap:=s1.heap.push { cls:=.type "tuple",data:=.seq [u1,u2].toArray } }:=I1.kept (t':=s1.toks) fun b o e => Heap.get?_push_of_some _ e
  rw [hw]
  refine wpAny_bind (wpAny_pure ?_)
  show wpAny (model X.prog X.w) X.A (do rule "assign.swapped-stores"; let items ← unpackItems (.ref s1.heap.objs.size) 2 none; assignInOrder [fun v => bindName X.env y v,fun v => bindName X.env x v] items.reverse; pure Flow.next) _ _ _
  refine wpAny_bind (wpAny_rule (wpAny_bind (unpackItems_tuple (items:=#[u1,u2]) (I.ok.hd hc) (IsTup.new s1.heap _) fun h' hx' => ?_)))
  have I3:=I2.kept (h':=h') (t':=s1.toks) fun b o e => hx' b o (Nat.ne_of_lt (Heap.lt_size e)) e
  show wpAny _ _ (assignInOrder [fun v => bindName X.env y v,fun v => bindName X.env x v] [u2,u1] >>= fun _ => pure Flow.next) _ _ _
  refine wpAny_bind (assignInOrder_cons (wpAny_bindName (store_ok I3 hN hj (.inl hy) rw' (fun s2 I4 => ?_) (.inr hy))))
  refine assignInOrder_cons (wpAny_bindName (store_ok I4 hN hi (.inl hx) rv (fun s3 I5 => assignInOrder_nil (wpAny_pure ?_)) (.inr hx)))
  rw [List.set_comm _ _ (Ne.symm hij)] at I5
  exact ⟨_,H1,I5,q1⟩
end
section
variable {X:Cx} {pos:Pos}
noncomputable def tWhile (c:TT) (tb:TS):TS:=fun D σ H => ∃ W:Nat -> St -> Hp -> Prop,(∃ m,W m σ H) /\ ∀ m σ H,W m σ H ->
  c σ H fun b H1 => if b = true then ∃ N:St -> Hp -> Prop,(∀ σ' H',N σ' H' -> ∃ m',m' < m /\ W m' σ' H') /\ tb { D with nx:=N,ct:=N,bk:=D.nx } σ H1 else D.nx σ H1
theorem ps_while {c:Expr} {body:List Stmt} {tc:TT} {tb:TS} (hp:PassesOwn (model X.prog X.w) X.A X.env X.xe) (hc:PT X c tc) (hb:PSs X body tb):PS X (.While c body [] pos) (tWhile tc tb):=by
  intro pins s σ H D I h
  obtain ⟨W,⟨m0,w0⟩,turn⟩:=h
  refine wpAny_While (codeAny_whileLoop (fun n s' => ∃ σ' H',Inv X pins σ' H' s' /\ W n σ' H') ?_ m0 ⟨σ,H,I,w0⟩)
  rintro n s1 ⟨σ1,H1,I1,w1⟩
  refine wpAny_passesOwn hp (thn (hc pins s1 σ1 H1 _ I1 (turn n σ1 H1 w1)) fun b s2 ⟨H2,I2,q2⟩ => ?_)
  cases b with
  | true =>
    obtain ⟨N,hN,q2⟩:=q2
    rw [if_pos rfl]
    refine wpAny_passesOwn hp (thn (hb pins s2 σ1 H2 _ I2 q2) fun f s3 q3 => ?_)
    cases f with
    | next =>
      obtain ⟨σ3,H3,I3,n3⟩:=q3
      obtain ⟨m',hm,w3⟩:=hN σ3 H3 n3
      exact ⟨m',hm,σ3,H3,I3,w3⟩
    | cont =>
      obtain ⟨σ3,H3,I3,n3⟩:=q3
      obtain ⟨m',hm,w3⟩:=hN σ3 H3 n3
      exact ⟨m',hm,σ3,H3,I3,w3⟩
    | brk => exact q3
    | ret v => exact q3
  | false =>
    rw [if_neg Bool.false_ne_true]
    exact wpAny_execs_nil ⟨σ1,H2,I2,q2⟩
end
structure It where
  go:Nat -> Hp -> Prop
  yld:Nat -> Hp -> V -> Hp -> Prop
  stop:Nat -> Hp -> Prop
noncomputable def FpOk (X:Cx) (pins:List (Addr×Obj)) (H:Hp) (b:Addr):Prop :=
  H b = none /\ b ≠ X.env.locals /\ b ∉ X.fs /\ (b ∈ X.ex ∨ X.s₀.heap.objs.size <= b) /\ (∀ x c,X.env.cells.lookup x = some c -> c ≠ b) /\ ∀ p ∈ X.pn ++ pins,p.1 ≠ b
theorem Inv.fpOk {X:Cx} {pins:List (Addr×Obj)} {σ:St} {H H':Hp} {s:Shared} {b:Addr} (I:Inv X pins σ H s) (hb:s.heap.objs.size <= b) (hn:H' b = none):FpOk X pins H' b:=by
  refine ⟨hn,Nat.ne_of_gt (Nat.lt_of_lt_of_le I.lt hb),I.nofs hb,.inr (Nat.le_trans I.sz hb),fun x c e z => ?_,fun p hp z => ?_⟩
  . obtain ⟨v,q⟩:=I.cell x c e
    exact absurd (Nat.lt_of_lt_of_le q.lt (by rw [z]; exact hb)) (Nat.lt_irrefl _)
  . exact absurd (Nat.lt_of_lt_of_le (Heap.lt_size (I.pin p hp).1) (by rw [z]; exact hb)) (Nat.lt_irrefl _)
structure Turn (P:Program) (w:World) (K:PySem.W.Frag) (tg:Expr) (J:It) (fp:List Addr) (it:Addr) (tn:Nat -> Heap -> Prop):Prop where
  mem:it ∈ fp
  obj:∀ i h,tn i h -> ∀ b ∈ fp,∃ o,h.get? b = some o /\ ∀ v,o.data ≠ .cell v
  keep:∀ i h h',tn i h -> (∀ b ∈ fp,∀ o,h.get? b = some o -> h'.get? b = some o) -> tn i h'
  item:∀ (X:Cx),X.prog = P -> X.w = w -> X.K = K -> X.calm = true -> ∀ (i:Nat) (pins:List (Addr×Obj)) (s:Shared) (σ:St) (H:Hp) (E:Value -> Shared -> Prop),Inv X pins σ H s -> (∀ b ∈ fp,FpOk X pins H b) -> tn i s.heap -> J.go i H ->
    wpAny (model P w) X.A (pyNext (.ref it)) (fun r s1 => ∃ u,r = some u /\
      wpAny (model P w) X.A (letOwnedTupleGo tg (.ref it) u) (fun _ s2 => ∃ x H',Inv X pins σ H' s2 /\ RelV x u /\ J.yld i H x H' /\ tn (i + 1) s2.heap /\ ∀ b ∈ fp,H' b = none) E s1) E s
  done:∀ (X:Cx),X.prog = P -> X.w = w -> X.K = K -> X.calm = true -> ∀ (i:Nat) (pins:List (Addr×Obj)) (s:Shared) (σ:St) (H:Hp) (E:Value -> Shared -> Prop),Inv X pins σ H s -> (∀ b ∈ fp,FpOk X pins H b) -> tn i s.heap -> J.stop i H ->
    wpAny (model P w) X.A (pyNext (.ref it)) (fun r s1 => r = none /\ Inv X pins σ H s1) E s
  self:∀ (A:Around) (i:Nat) (s:Shared) (Q:Value -> Shared -> Prop) (E:Value -> Shared -> Prop),tn i s.heap -> Q (.ref it) s -> wpAny (model P w) A (pyIter (.ref it)) Q E s
noncomputable abbrev TI:=St -> Hp -> (It -> Hp -> Prop) -> Prop
noncomputable def PIE (X:Cx) (pins:List (Addr×Obj)) (σ:St) (tg:Expr) (R:It -> Hp -> Prop) (itv:Value) (s2:Shared):Prop :=
  ∃ (it:Addr) (fp:List Addr) (tn:Nat -> Heap -> Prop) (J:It) (H':Hp),itv = .ref it /\ Inv X pins σ H' s2 /\ Turn X.prog X.w X.K tg J fp it tn /\ tn 0 s2.heap /\ (∀ b ∈ fp,FpOk X pins H' b) /\ R J H'
noncomputable def PI (X:Cx) (tg iter:Expr) (wi:TI):Prop :=
  ∀ (pins:List (Addr×Obj)) (s:Shared) (σ:St) (H:Hp) (R:It -> Hp -> Prop),Inv X pins σ H s -> wi σ H R ->
    wpAny (model X.prog X.w) X.A (eval iter X.env) (fun v s1 => wpAny (model X.prog X.w) X.A (pyIter v) (PIE X pins σ tg R) X.xe s1) X.xe s
theorem go_of {M:Model} {A:Around} {E:Value -> Shared -> Prop} {s:Shared} {tg:Expr} {it:Addr} {u:Value} {o:Obj} {n:String} {vs:Array Value} {Q:Unit -> Shared -> Prop} (ho:s.heap.get? it = some o) (hc:o.cls = .type n) (hd:o.data = .fields vs)
    (hn:["enumerate","zip","dict_itemiterator","dict_reverseitemiterator","odict_iterator","itertools.zip_longest","itertools.pairwise"].contains n = false) (hQ:Q () s):wpAny M A (letOwnedTupleGo tg (.ref it) u) Q E s:=by
  unfold letOwnedTupleGo
  cases tg <;> first
    | exact wpAny_pure hQ
    | (cases u <;> first
        | exact wpAny_pure hQ
        | (refine wpAny_bind (wpAny_load ho ?_)
           rw [hc,hd]
           show wpAny M A (if (["enumerate","zip","dict_itemiterator","dict_reverseitemiterator","odict_iterator","itertools.zip_longest","itertools.pairwise"].contains n && vs[0]? == some (rawInt _)) = true then _ else _) Q E s
           rw [if_neg (by intro h; rw [hn,Bool.false_and] at h; cases h)]
           exact wpAny_pure hQ))
noncomputable def Itl (K:PySem.W.Frag) (a:Addr):It :=
  ⟨fun i H => ∃ xs x,SqL K H a xs /\ xs[i]? = some x,fun i H x H' => H' = H /\ ∀ xs,SqL K H a xs -> xs[i]? = some x,fun i H => ∃ xs,SqL K H a xs /\ xs.length <= i⟩
noncomputable def Itr (lo:Int) (n:Nat):It:=⟨fun i _ => i < n,fun i H x H' => H' = H /\ x = .int (lo + i),fun i _ => n <= i⟩
theorem turn_list {P:Program} {w:World} {K:PySem.W.Frag} {tg:Expr} (a it:Addr):Turn P w K tg (Itl K a) [it] it (fun i h => h.IsListIter it a i) where
  mem:=by simp
  obj:=fun i h st b hb => by
    have e:b = it:=by simpa using hb
    subst e
    obtain ⟨o,e,c,d⟩:=st
    exact ⟨o,e,fun v z => by rw [d] at z; cases z⟩
  keep:=fun i h h' st k => st.at fun o e => k it (by simp) o e
  item:=by
    intro X hP hw hK hc i pins s σ H E I hf st hg
    subst hP hw hK
    obtain ⟨xs,x,hq,hx⟩:=hg
    obtain ⟨its,rv,p,hz⟩:=I.list hq
    obtain ⟨u,hu,ru⟩:=rv.get hx
    obtain ⟨f0,f1,f2,f3,f4,f5⟩:=hf it (by simp)
    refine wpAny_pyNext_list_item st p.isList (x:=u) (by simpa using hu) fun h' st' sb => ?_
    have I1:Inv X pins σ H { s with heap:=h' }:=I.turned (t':=s.toks) (fun b o hb e => (sb.2 b hb).trans e) f0 f1 f3 f4 f5
    obtain ⟨o,e,c,d⟩:=id st'
    exact ⟨u,rfl,go_of (s:={ s with heap:=h' }) e c d (by decide) ⟨x,H,I1,ru,⟨rfl,fun ys hy => by rw [I.list_inj hy hq]; exact hx⟩,st',fun b hb => (hf b hb).1⟩⟩
  done:=by
    intro X hP hw hK hc i pins s σ H E I hf st hg
    subst hP hw hK
    obtain ⟨xs,hq,hx⟩:=hg
    obtain ⟨its,rv,p,hz⟩:=I.list hq
    obtain ⟨f0,f1,f2,f3,f4,f5⟩:=hf it (by simp)
    have hl:=rv.length
    exact wpAny_pyNext_list_end (I.ok.hd hc) st p.isList (by simp; omega) fun h' eb => ⟨rfl,I.turned (t':=s.toks) (fun b o hb e => eb b o hb e) f0 f1 f3 f4 f5⟩
  self:=fun _ _ _ _ _ st h => wpAny_pyIter_listiter st h
theorem turn_range {P:Program} {w:World} {K:PySem.W.Frag} {tg:Expr} (it:Addr) (lo:Int) (n:Nat):Turn P w K tg (Itr lo n) [it] it (fun i h => IsRangeIter h it (lo + (i:Nat) * 1) ((n:Int) - (i:Nat)) 1) where
  mem:=by simp
  obj:=fun i h st b hb => by
    have e:b = it:=by simpa using hb
    subst e
    exact ⟨_,st,fun v z => by
      have z':Data.fields _ = Data.cell v:=z
      cases z'⟩
  keep:=fun i h h' st k => k it (by simp) _ st
  item:=by
    intro X hP hw hK hc i pins s σ H E I hf st hg
    subst hP hw hK
    obtain ⟨f0,f1,f2,f3,f4,f5⟩:=hf it (by simp)
    have W:=Walks.range (prog:=X.prog) (w:=X.w) (I.ok.hd hc) it lo 1 n
    refine W.item i s _ _ hg st fun v h' tk hv st' kk => ?_
    obtain ⟨t,rfl⟩:=hv
    have I1:Inv X pins σ H { s with heap:=h',toks:=tk }:=I.turned (fun b o hb e => kk b o (by simpa using hb) e) f0 f1 f3 f4 f5
    refine ⟨_,rfl,go_of (s:={ s with heap:=h',toks:=tk }) (n:="range_iterator") st' rfl rfl (by decide) ⟨.int (lo + i),H,I1,⟨t,?_⟩,⟨rfl,rfl⟩,st',fun b hb => (hf b hb).1⟩⟩
    rw [Int.mul_one]
  done:=by
    intro X hP hw hK hc i pins s σ H E I hf st hg
    subst hP hw hK
    obtain ⟨f0,f1,f2,f3,f4,f5⟩:=hf it (by simp)
    exact wpAny_pyNext_range_end (I.ok.hd hc) st (by have:n <= i:=hg; omega) fun h' eb => ⟨rfl,I.turned (t':=s.toks) (fun b o hb e => eb b o hb e) f0 f1 f3 f4 f5⟩
  self:=fun _ _ _ _ _ st h => wpAny_pyIter_rangeiter st h
end L2
namespace L2
open PySem PySem.Spec PyProof.Rows
section
variable {X:Cx} {tg:Expr}
noncomputable def iList (K:PySem.W.Frag) (tl:TE):TI:=fun σ H R => tl σ H fun x H1 => ∃ a,x = .ref a /\ (∃ xs,SqL K H1 a xs) /\ R (Itl K a) H1
theorem pi_list {l:Expr} {tl:TE} (hl:PE X l tl):PI X tg l (iList X.K tl):=by
  intro pins s σ H R I h
  refine thn (hl pins s σ H _ I h) fun v s1 ⟨x,H1,I1,r1,q1⟩ => ?_
  obtain ⟨a,e,⟨xs,hq⟩,q⟩:=q1
  subst e
  cases r1
  obtain ⟨its,rv,p,hz⟩:=I1.list hq
  refine wpAny_pyIter_list p.isList ?_
  refine ⟨s1.heap.objs.size,[s1.heap.objs.size],_,_,H1,rfl,I1.kept (t':=s1.toks) fun b o e => Heap.get?_push_of_some _ e,turn_list a _,⟨_,Heap.get?_push_size _ rfl,rfl,rfl⟩,fun b hb => ?_,q⟩
  have e:b = s1.heap.objs.size:=by simpa using hb
  subst e
  exact I1.fpOk (Nat.le_refl _) (I1.hok.fresh (Nat.le_refl _))
theorem range_it {pins:List (Addr×Obj)} {σ:St} {H:Hp} {s:Shared} {R:It -> Hp -> Prop} {E:Value -> Shared -> Prop} {lo hi:Int} {t u v:Tok} {tk:Nat} (I:Inv X pins σ H s) (h1:-(2 ^ 62) <= lo) (h2:lo < 2 ^ 62) (h3:-(2 ^ 62) <= hi) (h4:hi < 2 ^ 62)
    (q:R (Itr lo (hi - lo).toNat) H):wpAny (model X.prog X.w) X.A (pyIter (.ref s.heap.objs.size)) (PIE X pins σ tg R) E { s with heap:=s.heap.push { cls:=.type "range",data:=.fields #[.int lo t,.int hi u,.int 1 v] },toks:=tk }:=by
  refine wpAny_pyIter_range (IsRange.new ..) (small_one h1 h2 h3 h4) ?_
  have I1:Inv X pins σ H { s with heap:=s.heap.push { cls:=.type "range",data:=.fields #[.int lo t,.int hi u,.int 1 v] },toks:=tk }:=I.kept fun b o e => Heap.get?_push_of_some _ e
  refine ⟨(s.heap.push { cls:=.type "range",data:=.fields #[.int lo t,.int hi u,.int 1 v] }).objs.size,[(s.heap.push { cls:=.type "range",data:=.fields #[.int lo t,.int hi u,.int 1 v] }).objs.size],_,_,H,rfl,
    I1.kept (t':=tk) fun b o e => Heap.get?_push_of_some _ e,turn_range _ lo (hi - lo).toNat,?_,fun b hb => ?_,q⟩
  . have e1:lo + ((0:Nat):Int) * 1 = lo:=by simp
    have e2:(((hi - lo).toNat:Nat):Int) - ((0:Nat):Int) = Builtin.Range.rangeSize lo hi 1:=by rw [rangeSize_one]; split <;> omega
    show IsRangeIter _ _ (lo + ((0:Nat):Int) * 1) ((((hi - lo).toNat:Nat):Int) - ((0:Nat):Int)) 1
    rw [e1,e2]
    exact Heap.get?_push_size _ rfl
  . have e:b = (s.heap.push { cls:=.type "range",data:=.fields #[.int lo t,.int hi u,.int 1 v] }).objs.size:=by simpa using hb
    subst e
    exact I1.fpOk (Nat.le_refl _) (I1.hok.fresh (Nat.le_refl _))
noncomputable def iRng1 (ta:TA):TI:=fun σ H R => ta σ H fun vs H1 => ∃ j:Int,vs = [.int j] /\ -(2 ^ 62) <= j /\ j < 2 ^ 62 /\ R (Itr 0 j.toNat) H1
noncomputable def iRng2 (ta:TA):TI:=fun σ H R => ta σ H fun vs H1 => ∃ i j:Int,vs = [.int i,.int j] /\ (-(2 ^ 62) <= i /\ i < 2 ^ 62 /\ -(2 ^ 62) <= j /\ j < 2 ^ 62) /\ R (Itr i (j - i).toNat) H1
theorem pi_range1 {a:Expr} {ta:TA} {p pos:Pos} (hg:Gl X "range") (hm:X.mg "range" = none) (ha:PA X [a] ta) (hs:starEach [a] X.env = [(false,eval a X.env)]:=by rfl):PI X tg (.Call (.Name "range" p) [a] [] pos) (iRng1 ta):=by
  intro pins s σ H R I h
  refine Call_ (ld_blt I hg hm boot_range (PyProof.Rows.callWith_type1 (thn (ha pos pins s σ H _ I h) fun us s1 ⟨vs,H1,I1,r1,q1⟩ => ?_) hs rfl))
  obtain ⟨j,e,q1,q2,q⟩:=q1
  subst e
  cases r1 with
  | cons r rr =>
    cases rr
    obtain ⟨t,rfl⟩:=r
    exact call_range_1 (range_it I1 (by omega) (by omega) q1 q2 (by simpa using q))
theorem pi_range2 {a b:Expr} {ta:TA} {p pos:Pos} (hg:Gl X "range") (hm:X.mg "range" = none) (ha:PA X [a,b] ta) (hs:starEach [a,b] X.env = [(false,eval a X.env),(false,eval b X.env)]:=by rfl) (hs2:starEach [b] X.env = [(false,eval b X.env)]:=by rfl) :
    PI X tg (.Call (.Name "range" p) [a,b] [] pos) (iRng2 ta):=by
  intro pins s σ H R I h
  refine Call_ (ld_blt I hg hm boot_range (PyProof.Rows.callWith_type1 (thn (ha pos pins s σ H _ I h) fun us s1 ⟨vs,H1,I1,r1,q1⟩ => ?_) (by rw [hs,hs2]) (by rw [hs2]; rfl)))
  obtain ⟨i,j,e,⟨q1,q2,q3,q4⟩,q⟩:=q1
  subst e
  cases r1 with
  | cons r rr =>
    cases rr with
    | cons r' rr =>
      cases rr
      obtain ⟨t,rfl⟩:=r
      obtain ⟨t',rfl⟩:=r'
      exact call_range_2 (range_it I1 q1 q2 q3 q4 q)
noncomputable def tFor (wi:TI) (g:TG) (tb:TS):TS:=fun D σ H => wi σ H fun J H1 => ∃ W:Nat -> Nat -> St -> Hp -> Prop,(∃ m,W 0 m σ H1) /\ ∀ i m σ H,W i m σ H ->
  (J.stop i H /\ D.nx σ H) ∨ (J.go i H /\ ∃ N:St -> Hp -> Prop,(∀ σ' H',N σ' H' -> ∃ m',m' < m /\ W (i + 1) m' σ' H') /\ ∀ x H',J.yld i H x H' -> g x σ H' fun σ2 H2 => tb { D with nx:=N,ct:=N,bk:=D.nx } σ2 H2)
noncomputable def pinsAt (fp:List Addr) (h:Heap):List (Addr×Obj):=fp.filterMap fun b => (h.get? b).map fun o => (b,o)
theorem mem_pinsAt {fp:List Addr} {h:Heap} {b:Addr} {o:Obj} (hb:b ∈ fp) (e:h.get? b = some o):(b,o) ∈ pinsAt fp h:=List.mem_filterMap.mpr ⟨b,hb,by rw [e]; rfl⟩
theorem of_pinsAt {fp:List Addr} {h:Heap} {p:Addr×Obj} (hp:p ∈ pinsAt fp h):p.1 ∈ fp /\ h.get? p.1 = some p.2:=by
  obtain ⟨b,hb,e⟩:=List.mem_filterMap.mp hp
  cases q:h.get? b with
  | none => rw [q] at e; cases e
  | some o =>
    rw [q] at e
    have e':(b,o) = p:=Option.some.inj e
    subst e'
    exact ⟨hb,q⟩
theorem Inv.pinned {pins:List (Addr×Obj)} {σ:St} {H:Hp} {s:Shared} {fp:List Addr} (I:Inv X pins σ H s) (hf:∀ b ∈ fp,FpOk X pins H b) (ho:∀ b ∈ fp,∃ o,s.heap.get? b = some o /\ ∀ v,o.data ≠ .cell v):Inv X (pins ++ pinsAt fp s.heap) σ H s :=
  I.pins_of fun p hp => (List.mem_append.mp hp).elim (fun z => I.pin p (List.mem_append_right _ z)) fun z => by
    obtain ⟨hb,e⟩:=of_pinsAt z
    obtain ⟨f0,f1,f2,_⟩:=hf p.1 hb
    obtain ⟨o,e',d⟩:=ho p.1 hb
    rw [e] at e'; cases e'
    exact ⟨e,f0,f1,f2,d⟩
theorem Inv.unpinned {pins pl:List (Addr×Obj)} {σ:St} {H:Hp} {s:Shared} (I:Inv X (pins ++ pl) σ H s):Inv X pins σ H s:=I.pins_of fun p hp => I.pin p (List.mem_append_right _ (List.mem_append_left _ hp))
theorem ps_for {iter:Expr} {body:List Stmt} {wi:TI} {g:TG} {tb:TS} {pos:Pos} (hp:PassesOwn (model X.prog X.w) X.A X.env X.xe) (hc:X.calm = true) (hi:PI X tg iter wi) (hg:PG X tg g) (hb:PSs X body tb)
    (hs:∀ x,foldedSetIterable iter X.env x = pure x:=by intro _; rfl):PS X (.For tg iter body [] pos) (tFor wi g tb):=by
  intro pins s σ H D I h
  refine wpAny_For (thn (hi pins s σ H _ I h) fun v s1 h1 => thn h1 fun itv s2 h2 => ?_) hs
  obtain ⟨it,fp,tn,J,H2,e,I2,T,st2,f2,W,⟨m0,w0⟩,turn⟩:=h2
  subst e
  -- what stays true of the iterator's objects through the loop
  have stat:∀ {H':Hp},(∀ b ∈ fp,H' b = none) -> ∀ b ∈ fp,FpOk X pins H' b:=fun hn b hb => ⟨hn b hb,(f2 b hb).2⟩
  refine codeAny_forLoop_any (fun n s' => ∃ i σ' H',Inv X pins σ' H' s' /\ tn i s'.heap /\ (∀ b ∈ fp,H' b = none) /\ W i n σ' H') ?_ m0 ⟨0,σ,H2,I2,st2,fun b hb => (f2 b hb).1,w0⟩
  rintro n s3 ⟨i,σ3,H3,I3,st3,fr3,w3⟩
  rcases turn i n σ3 H3 w3 with ⟨stop,qn⟩ | ⟨go,N,hN,step⟩
  . refine wpAny_passesOwn hp (thn (T.done X rfl rfl rfl hc i pins s3 σ3 H3 X.xe I3 (stat fr3) st3 stop) fun r s4 ⟨hr,I4⟩ => ?_)
    subst hr
    exact wpAny_execs_nil ⟨σ3,H3,I4,qn⟩
  . refine wpAny_passesOwn hp (thn (T.item X rfl rfl rfl hc i pins s3 σ3 H3 X.xe I3 (stat fr3) st3 go) fun r s4 ⟨u,hr,h4⟩ => ?_)
    subst hr
    refine wpAny_passesOwn hp (thn h4 fun _ s5 ⟨x,H5,I5,r5,y5,st5,fr5⟩ => ?_)
    have I5':=I5.pinned (stat fr5) (T.obj _ _ st5)
    refine wpAny_passesOwn hp (thn (hg _ s5 σ3 H5 x u _ I5' r5 (step x H5 y5)) fun _ s6 ⟨σ6,H6,I6,q6⟩ => ?_)
    refine wpAny_passesOwn hp (thn (hb _ s6 σ6 H6 _ I6 q6) fun f s7 q7 => ?_)
    have again:∀ {σ7:St} {H7:Hp},Inv X (pins ++ pinsAt fp s5.heap) σ7 H7 s7 -> N σ7 H7 -> ∃ m,m < n /\ ∃ i σ' H',Inv X pins σ' H' s7 /\ tn i s7.heap /\ (∀ b ∈ fp,H' b = none) /\ W i m σ' H':=fun {σ7 H7} I7 n7 => by
      obtain ⟨m',hm,w7⟩:=hN σ7 H7 n7
      refine ⟨m',hm,i + 1,σ7,H7,I7.unpinned,T.keep _ _ _ st5 fun b hb o e => (I7.pin (b,o) (List.mem_append_right _ (List.mem_append_right _ (mem_pinsAt hb e)))).1,fun b hb => ?_,w7⟩
      obtain ⟨o,e,d⟩:=T.obj _ _ st5 b hb
      exact (I7.pin (b,o) (List.mem_append_right _ (List.mem_append_right _ (mem_pinsAt hb e)))).2.1
    cases f with
    | next => obtain ⟨σ7,H7,I7,n7⟩:=q7; exact again I7 n7
    | cont => obtain ⟨σ7,H7,I7,n7⟩:=q7; exact again I7 n7
    | brk => obtain ⟨σ7,H7,I7,q7⟩:=q7; exact ⟨σ7,H7,I7.unpinned,q7⟩
    | ret v => obtain ⟨x7,σ7,H7,I7,r7,q7⟩:=q7; exact ⟨x7,σ7,H7,I7.unpinned,r7,q7⟩
end
theorem for_list {K:PySem.W.Frag} {a:Addr} {xs:List V} {g:TG} {tb:TS} {D:Ends} {σ:St} {H:Hp} (Pv:Nat -> St -> Hp -> Prop) (h0:Pv 0 σ H) (hl:∀ i σ H,i <= xs.length -> Pv i σ H -> SqL K H a xs)
    (hs:∀ i x σ H,xs[i]? = some x -> Pv i σ H -> g x σ H fun σ2 H2 => tb { D with nx:=Pv (i + 1),ct:=Pv (i + 1),bk:=D.nx } σ2 H2) (hd:∀ σ H,Pv xs.length σ H -> D.nx σ H) :
    ∃ W:Nat -> Nat -> St -> Hp -> Prop,(∃ m,W 0 m σ H) /\ ∀ i m σ H,W i m σ H ->
      ((Itl K a).stop i H /\ D.nx σ H) ∨ ((Itl K a).go i H /\ ∃ N:St -> Hp -> Prop,(∀ σ' H',N σ' H' -> ∃ m',m' < m /\ W (i + 1) m' σ' H') /\ ∀ x H',(Itl K a).yld i H x H' -> g x σ H' fun σ2 H2 => tb { D with nx:=N,ct:=N,bk:=D.nx } σ2 H2):=by
  refine ⟨fun i m σ H => m = xs.length - i /\ i <= xs.length /\ Pv i σ H,⟨xs.length,by simp,Nat.zero_le _,h0⟩,?_⟩
  rintro i m σ H ⟨rfl,hi,p⟩
  have q:=hl i σ H hi p
  by_cases hlt:i < xs.length
  . refine .inr ⟨⟨xs,xs[i],q,by simp [hlt]⟩,Pv (i + 1),fun σ' H' p' => ⟨xs.length - (i + 1),by omega,rfl,hlt,p'⟩,fun x H' y => ?_⟩
    obtain ⟨e,y⟩:=y
    subst e
    exact hs i x σ _ (y xs q) p
  . have e:i = xs.length:=by omega
    subst e
    exact .inl ⟨⟨xs,q,Nat.le_refl _⟩,hd σ H p⟩
theorem for_range {lo:Int} {n:Nat} {g:TG} {tb:TS} {D:Ends} {σ:St} {H:Hp} (Pv:Nat -> St -> Hp -> Prop) (h0:Pv 0 σ H)
    (hs:∀ i σ H,i < n -> Pv i σ H -> g (.int (lo + i)) σ H fun σ2 H2 => tb { D with nx:=Pv (i + 1),ct:=Pv (i + 1),bk:=D.nx } σ2 H2) (hd:∀ σ H,Pv n σ H -> D.nx σ H) :
    ∃ W:Nat -> Nat -> St -> Hp -> Prop,(∃ m,W 0 m σ H) /\ ∀ i m σ H,W i m σ H ->
      ((Itr lo n).stop i H /\ D.nx σ H) ∨ ((Itr lo n).go i H /\ ∃ N:St -> Hp -> Prop,(∀ σ' H',N σ' H' -> ∃ m',m' < m /\ W (i + 1) m' σ' H') /\ ∀ x H',(Itr lo n).yld i H x H' -> g x σ H' fun σ2 H2 => tb { D with nx:=N,ct:=N,bk:=D.nx } σ2 H2):=by
  refine ⟨fun i m σ H => m = n - i /\ i <= n /\ Pv i σ H,⟨n,by simp,Nat.zero_le _,h0⟩,?_⟩
  rintro i m σ H ⟨rfl,hi,p⟩
  by_cases hlt:i < n
  . refine .inr ⟨hlt,Pv (i + 1),fun σ' H' p' => ⟨n - (i + 1),by omega,rfl,hlt,p'⟩,fun x H' y => ?_⟩
    obtain ⟨e,y⟩:=y
    subst e y
    exact hs i σ _ hlt p
  . have e:i = n:=by omega
    subst e
    exact .inl ⟨Nat.le_refl _,hd σ H p⟩
theorem while_by {c:TT} {tb:TS} {D:Ends} {σ:St} {H:Hp} (Pv:St -> Hp -> Prop) (μ:St -> Hp -> Nat) (h0:Pv σ H)
    (hs:∀ σ H,Pv σ H -> c σ H fun b H1 => if b = true then tb { D with nx:=fun σ' H' => Pv σ' H' /\ μ σ' H' < μ σ H,ct:=fun σ' H' => Pv σ' H' /\ μ σ' H' < μ σ H,bk:=D.nx } σ H1 else D.nx σ H1)
    (mono:∀ σ H Q Q',(∀ b H1,Q b H1 -> Q' b H1) -> c σ H Q -> c σ H Q'):tWhile c tb D σ H:=by
  refine ⟨fun m σ H => m = μ σ H /\ Pv σ H,⟨_,rfl,h0⟩,?_⟩
  rintro m σ H ⟨rfl,p⟩
  refine mono σ H _ _ (fun b H1 q => ?_) (hs σ H p)
  cases b with
  | true => exact ⟨_,fun σ' H' ⟨p',l⟩ => ⟨_,l,rfl,p'⟩,q⟩
  | false => exact q
end L2
namespace L2
open PySem PySem.Spec PyProof.Rows
noncomputable abbrev R2:=V -> V -> Hp -> VK -> Prop
noncomputable def OpR (X:Cx) (f:Value -> Value -> Sem Value) (r:R2):Prop :=
  ∀ (pins:List (Addr×Obj)) (s:Shared) (σ:St) (H:Hp) (x y:V) (v u:Value) (Q:VK),Inv X pins σ H s -> RelV x v -> RelV y u -> r x y H Q ->
    wpAny (model X.prog X.w) X.A (f v u) (EP X pins σ Q) X.xe s
noncomputable def UnR (X:Cx) (f:Value -> Sem Value) (r:V -> Hp -> VK -> Prop):Prop :=
  ∀ (pins:List (Addr×Obj)) (s:Shared) (σ:St) (H:Hp) (x:V) (v:Value) (Q:VK),Inv X pins σ H s -> RelV x v -> r x H Q ->
    wpAny (model X.prog X.w) X.A (f v) (EP X pins σ Q) X.xe s
noncomputable def CallR (X:Cx) (f:Value) (r:List V -> Hp -> VK -> Prop):Prop :=
  ∀ (pins:List (Addr×Obj)) (s:Shared) (σ:St) (H:Hp) (xs:List V) (us:List Value) (Q:VK),Inv X pins σ H s -> Vals xs us -> r xs H Q ->
    wpAny (model X.prog X.w) X.A (call f us) (EP X pins σ Q) X.xe s
noncomputable def tOp (r:R2) (ta tb:TE):TE:=fun σ H Q => ta σ H fun x H1 => tb σ H1 fun y H2 => r x y H2 Q
noncomputable def tUn (r:V -> Hp -> VK -> Prop) (ta:TE):TE:=fun σ H Q => ta σ H fun x H1 => r x H1 Q
noncomputable def rI (C:Int -> Int -> Prop) (g:Int -> Int -> V):R2:=fun x y H Q => ∃ i j,x = .int i /\ y = .int j /\ C i j /\ Q (g i j) H
noncomputable def rI0 (g:Int -> Int -> V):R2:=fun x y H Q => ∃ i j,x = .int i /\ y = .int j /\ Q (g i j) H
noncomputable def rU (g:Int -> V):V -> Hp -> VK -> Prop:=fun x H Q => ∃ i,x = .int i /\ Q (g i) H
section
variable {X:Cx} {a b c:Expr} {ta tb tc:TE} {pos:Pos}
theorem binT (ha:PE X a ta) (hb:PE X b tb) {pins:List (Addr×Obj)} {s:Shared} {σ:St} {H:Hp} {R:V -> V -> Hp -> Prop} (I:Inv X pins σ H s)
    (h:ta σ H fun x H1 => tb σ H1 fun y H2 => R x y H2) {Q:Value -> Shared -> Prop} {f:Value -> Value -> Sem Value}
    (hf:∀ v u s2 x y H2,Inv X pins σ H2 s2 -> RelV x v -> RelV y u -> R x y H2 -> wpAny (model X.prog X.w) X.A (f v u) Q X.xe s2) :
    wpAny (model X.prog X.w) X.A (eval a X.env) (fun v s₁ => wpAny (model X.prog X.w) X.A (eval b X.env) (fun u s₂ => wpAny (model X.prog X.w) X.A (f v u) Q X.xe s₂) X.xe s₁) X.xe s:=by
  refine thn (ha pins s σ H _ I h) fun v s1 ⟨x,H1,I1,r1,q1⟩ => ?_
  refine thn (hb pins s1 σ H1 _ I1 q1) fun u s2 ⟨y,H2,I2,r2,q2⟩ => ?_
  exact hf v u s2 x y H2 I2 r1 r2 q2
theorem pe_op {op:Operator} {r:R2} (ho:OpR X (binaryOp op) r) (ha:PE X a ta) (hb:PE X b tb):PE X (.BinOp a op b pos) (tOp r ta tb):=by
  intro pins s σ H Q I h
  exact wpAny_BinOp (binT ha hb I h fun v u s2 x y H2 I2 rx ry q => ho pins s2 σ H2 x y v u Q I2 rx ry q)
theorem pe_un {op:UnaryOp} {r:V -> Hp -> VK -> Prop} (ho:UnR X (unaryOp op) r) (ha:PE X a ta):PE X (.UnaryOp op a pos) (tUn r ta):=by
  intro pins s σ H Q I h
  exact UnaryOp_ (thn (ha pins s σ H _ I h) fun v s1 ⟨x,H1,I1,r1,q1⟩ => ho pins s1 σ H1 x v Q I1 r1 q1)
theorem opI {f:Value -> Value -> Sem Value} {C:Int -> Int -> Prop} {g:Int -> Int -> Int}
    (rule:∀ (i j:Int) (t u:Tok) (s:Shared) (Q:Value -> Shared -> Prop) (E:Value -> Shared -> Prop),C i j -> Q (.int (g i j) s.toks) { s with toks:=s.toks + 1 } -> wpAny (model X.prog X.w) X.A (f (.int i t) (.int j u)) Q E s) :
    OpR X f (rI C fun i j => .int (g i j)):=by
  intro pins s σ H x y v u Q I rx ry h
  obtain ⟨i,j,rfl,rfl,hc,q⟩:=h
  obtain ⟨t,rfl⟩:=rx
  obtain ⟨t',rfl⟩:=ry
  exact rule i j t t' s _ _ hc ⟨.int (g i j),H,I.tok _,⟨_,rfl⟩,q⟩
theorem opI0 {f:Value -> Value -> Sem Value} {g:Int -> Int -> Int}
    (rule:∀ (i j:Int) (t u:Tok) (s:Shared) (Q:Value -> Shared -> Prop) (E:Value -> Shared -> Prop),Q (.int (g i j) s.toks) { s with toks:=s.toks + 1 } -> wpAny (model X.prog X.w) X.A (f (.int i t) (.int j u)) Q E s) :
    OpR X f (rI0 fun i j => .int (g i j)):=by
  intro pins s σ H x y v u Q I rx ry h
  obtain ⟨i,j,rfl,rfl,q⟩:=h
  obtain ⟨t,rfl⟩:=rx
  obtain ⟨t',rfl⟩:=ry
  exact rule i j t t' s _ _ ⟨.int (g i j),H,I.tok _,⟨_,rfl⟩,q⟩
theorem opB0 {f:Value -> Value -> Sem Value} {g:Int -> Int -> Bool}
    (rule:∀ (i j:Int) (t u:Tok) (s:Shared) (Q:Value -> Shared -> Prop) (E:Value -> Shared -> Prop),Q (.bool (g i j)) s -> wpAny (model X.prog X.w) X.A (f (.int i t) (.int j u)) Q E s) :
    OpR X f (rI0 fun i j => .bl (g i j)):=by
  intro pins s σ H x y v u Q I rx ry h
  obtain ⟨i,j,rfl,rfl,q⟩:=h
  obtain ⟨t,rfl⟩:=rx
  obtain ⟨t',rfl⟩:=ry
  exact rule i j t t' s _ _ ⟨.bl (g i j),H,I,rfl,q⟩
noncomputable def CPow (i j:Int):Prop:=0 <= j /\ j <= 1000000 /\ i.natAbs < 2 ^ 64
noncomputable def CMul (i j:Int):Prop:=(-(2 ^ 64) < i /\ i < 2 ^ 64) ∨ (-(2 ^ 64) < j /\ j < 2 ^ 64)
theorem CMul.ok {i j:Int} (h:CMul i j):IntMulOk i j:=by
  rcases h with ⟨h1,h2⟩ | ⟨h1,h2⟩
  . exact .of_left (intBits_le_64 h1 h2)
  . exact .of_right (intBits_le_64 h1 h2)
theorem op_add:OpR X (binaryOp .Add) (rI0 fun i j => .int (i + j)):=opI0 fun _ _ _ _ _ _ _ q => add_int q
theorem op_sub:OpR X (binaryOp .Sub) (rI0 fun i j => .int (i - j)):=opI0 fun _ _ _ _ _ _ _ q => sub_int q
theorem op_mod:OpR X (binaryOp .Mod) (rI (fun _ j => 0 < j) fun i j => .int (i % j)):=opI fun i j _ _ _ _ _ hc q => by
  have h1:(0:Int) < j:=hc
  exact mod_int' (by omega) (by rw [Int.fmod_eq_emod_of_nonneg i (by omega)]; exact q)
theorem op_modN:OpR X (binaryOp .Mod) (rI (fun _ j => j ≠ 0) fun i j => .int (i.fmod j)):=opI fun _ _ _ _ _ _ _ hc q => mod_int' hc q
theorem op_pow:OpR X (binaryOp .Pow) (rI CPow fun i j => .int (i ^ j.toNat)):=opI fun _ _ _ _ _ _ _ hc q => pow_int_small hc.1 hc.2.1 hc.2.2 q
theorem unI {f:Value -> Sem Value} {g:Int -> Int}
    (rule:∀ (i:Int) (t:Tok) (s:Shared) (Q:Value -> Shared -> Prop) (E:Value -> Shared -> Prop),Q (.int (g i) s.toks) { s with toks:=s.toks + 1 } -> wpAny (model X.prog X.w) X.A (f (.int i t)) Q E s) :
    UnR X f (rU fun i => .int (g i)):=by
  intro pins s σ H x v Q I rx h
  obtain ⟨i,rfl,q⟩:=h
  obtain ⟨t,rfl⟩:=rx
  exact rule i t s _ _ ⟨.int (g i),H,I.tok _,⟨_,rfl⟩,q⟩
theorem un_neg:UnR X (unaryOp .USub) (rU fun i => .int (-i)):=unI fun _ _ _ _ _ q => neg_int q
end
noncomputable def scal:V -> V -> Bool
  | .non,.non => true | .non,.int _ => true | .int _,.non => true | .non,.bl _ => true | .bl _,.non => true | .non,.str _ => true | .str _,.non => true
  | .int _,.int _ => true | .bl _,.bl _ => true | .str _,.str _ => true | .byt _,.byt _ => true
  | .int _,.str _ => true | .str _,.int _ => true | .bl _,.str _ => true | .str _,.bl _ => true
  | _,_ => false
noncomputable def rEq:R2:=fun x y H Q => scal x y = true /\ Q (.bl (decide (x = y))) H
noncomputable def rNe:R2:=fun x y H Q => scal x y = true /\ Q (.bl (!decide (x = y))) H
theorem dec_int {i j:Int}:decide (V.int i = V.int j) = (i == j):=by
  rw [Bool.eq_iff_iff]
  simp
theorem dec_bl {i j:Bool}:decide (V.bl i = V.bl j) = (i == j):=by
  rw [Bool.eq_iff_iff]
  simp
theorem dec_str {i j:Str}:decide (V.str i = V.str j) = (i == j):=by
  rw [Bool.eq_iff_iff]
  simp
theorem dec_byt {i j:Array UInt8}:decide (V.byt i = V.byt j) = (i.toList == j.toList):=by
  rw [Bool.eq_iff_iff]
  cases i
  cases j
  simp
section
variable {X:Cx} {a b c:Expr} {ta tb tc:TE} {pos:Pos}
theorem fin_bl {pins:List (Addr×Obj)} {σ:St} {H:Hp} {s:Shared} {Q:VK} {k k':Bool} (I:Inv X pins σ H s) (q:Q (.bl k) H) (e:k = k'):EP X pins σ Q (.bool k') s:=by
  subst e
  exact ⟨.bl k,H,I,rfl,q⟩
theorem op_eq:OpR X (compareOp .Eq) rEq:=by
  intro pins s σ H x y v u Q I rx ry h
  obtain ⟨hs,q⟩:=h
  cases x with
  | non =>
    cases rx
    cases y with
    | non => cases ry; exact PySem.EqNone.eq_none_none (fin_bl I q (by simp))
    | bl j => cases ry; exact PySem.EqNone.eq_none_bool (fin_bl I q (by simp))
    | int j => obtain ⟨t',rfl⟩:=ry; exact PySem.EqNone.eq_none_int (fin_bl I q (by simp))
    | str j => obtain ⟨t',rfl⟩:=ry; exact PySem.EqNone.eq_none_str (fin_bl I q (by simp))
    | _ => exact absurd (show false = true from hs) Bool.false_ne_true
  | bl i =>
    cases rx
    cases y with
    | non => cases ry; exact PySem.EqNone.eq_bool_none (fin_bl I q (by simp))
    | bl j => cases ry; exact eq_bool (fin_bl I q dec_bl)
    | str j => obtain ⟨t',rfl⟩:=ry; exact PySem.EqMixed.eq_bool_str (fin_bl I q (by simp))
    | _ => exact absurd (show false = true from hs) Bool.false_ne_true
  | int i =>
    obtain ⟨t,rfl⟩:=rx
    cases y with
    | non => cases ry; exact PySem.EqNone.eq_int_none (fin_bl I q (by simp))
    | int j => obtain ⟨t',rfl⟩:=ry; exact eq_int (fin_bl I q dec_int)
    | str j => obtain ⟨t',rfl⟩:=ry; exact PySem.EqMixed.eq_int_str (fin_bl I q (by simp))
    | _ => exact absurd (show false = true from hs) Bool.false_ne_true
  | str i =>
    obtain ⟨t,rfl⟩:=rx
    cases y with
    | non => cases ry; exact PySem.EqNone.eq_str_none (fin_bl I q (by simp))
    | bl j => cases ry; exact PySem.EqMixed.eq_str_bool (fin_bl I q (by simp))
    | int j => obtain ⟨t',rfl⟩:=ry; exact PySem.EqMixed.eq_str_int (fin_bl I q (by simp))
    | str j => obtain ⟨t',rfl⟩:=ry; exact eq_str (fin_bl I q dec_str)
    | _ => exact absurd (show false = true from hs) Bool.false_ne_true
  | byt i =>
    obtain ⟨t,rfl⟩:=rx
    cases y with
    | byt j => obtain ⟨t',rfl⟩:=ry; exact PySem.W.eq_bytes (fin_bl I q dec_byt)
    | _ => exact absurd (show false = true from hs) Bool.false_ne_true
  | _ => cases y <;> exact absurd (show false = true from hs) Bool.false_ne_true
theorem op_ne:OpR X (compareOp .NotEq) rNe:=by
  intro pins s σ H x y v u Q I rx ry h
  obtain ⟨hs,q⟩:=h
  cases x with
  | non =>
    cases rx
    cases y with
    | non => cases ry; exact PySem.EqNone.ne_none_none (fin_bl I q (by simp))
    | bl j => cases ry; exact PySem.EqNone.ne_none_bool (fin_bl I q (by simp))
    | int j => obtain ⟨t',rfl⟩:=ry; exact PySem.EqNone.ne_none_int (fin_bl I q (by simp))
    | str j => obtain ⟨t',rfl⟩:=ry; exact PySem.EqNone.ne_none_str (fin_bl I q (by simp))
    | _ => exact absurd (show false = true from hs) Bool.false_ne_true
  | bl i =>
    cases rx
    cases y with
    | non => cases ry; exact PySem.EqNone.ne_bool_none (fin_bl I q (by simp))
    | bl j => cases ry; exact ne_bool (fin_bl I q (congrArg not dec_bl))
    | str j => obtain ⟨t',rfl⟩:=ry; exact PySem.EqMixed.ne_bool_str (fin_bl I q (by simp))
    | _ => exact absurd (show false = true from hs) Bool.false_ne_true
  | int i =>
    obtain ⟨t,rfl⟩:=rx
    cases y with
    | non => cases ry; exact PySem.EqNone.ne_int_none (fin_bl I q (by simp))
    | int j => obtain ⟨t',rfl⟩:=ry; exact ne_int (fin_bl I q (congrArg not dec_int))
    | str j => obtain ⟨t',rfl⟩:=ry; exact PySem.EqMixed.ne_int_str (fin_bl I q (by simp))
    | _ => exact absurd (show false = true from hs) Bool.false_ne_true
  | str i =>
    obtain ⟨t,rfl⟩:=rx
    cases y with
    | non => cases ry; exact PySem.EqNone.ne_str_none (fin_bl I q (by simp))
    | bl j => cases ry; exact PySem.EqMixed.ne_str_bool (fin_bl I q (by simp))
    | int j => obtain ⟨t',rfl⟩:=ry; exact PySem.EqMixed.ne_str_int (fin_bl I q (by simp))
    | str j => obtain ⟨t',rfl⟩:=ry; exact ne_str (fin_bl I q (congrArg not dec_str))
    | _ => exact absurd (show false = true from hs) Bool.false_ne_true
  | byt i =>
    obtain ⟨t,rfl⟩:=rx
    cases y with
    | byt j => obtain ⟨t',rfl⟩:=ry; exact PySem.W.ne_bytes (fin_bl I q (congrArg not dec_byt))
    | _ => exact absurd (show false = true from hs) Bool.false_ne_true
  | _ => cases y <;> exact absurd (show false = true from hs) Bool.false_ne_true
theorem op_lt:OpR X (compareOp .Lt) (rI0 fun i j => .bl (decide (i < j))):=opB0 fun _ _ _ _ _ _ _ q => lt_int q
theorem op_le:OpR X (compareOp .LtE) (rI0 fun i j => .bl (decide (i <= j))):=opB0 fun _ _ _ _ _ _ _ q => le_int q
theorem op_ge:OpR X (compareOp .GtE) (rI0 fun i j => .bl (decide (j <= i))):=opB0 fun _ _ _ _ _ _ _ q => ge_int q
theorem op_isN:OpR X (compareOp .Is) (fun x y H Q => y = .non /\ Q (.bl (decide (x = .non))) H):=by
  intro pins s σ H x y v u Q I rx ry h
  obtain ⟨rfl,q⟩:=h
  cases ry
  refine is_none_gen (fin_bl I q ?_)
  cases x <;> first
    | (cases rx; rfl)
    | (obtain ⟨t,rfl⟩:=rx; rfl)
theorem OpR.or {f:Value -> Value -> Sem Value} {r r':R2} (h:OpR X f r) (h':OpR X f r'):OpR X f (fun x y H Q => r x y H Q ∨ r' x y H Q):=by
  intro pins s σ H x y v u Q I rx ry q
  rcases q with q | q
  . exact h pins s σ H x y v u Q I rx ry q
  . exact h' pins s σ H x y v u Q I rx ry q
theorem nomark (b:Expr) {op:CmpOp} (h:op ≠ .In:=by decide) (h2:op ≠ .NotIn:=by decide):behindInMarks op b = false:=by
  have e1:(op == CmpOp.In) = false:=by cases op <;> first | rfl | exact absurd rfl h
  have e2:(op == CmpOp.NotIn) = false:=by cases op <;> first | rfl | exact absurd rfl h2
  cases b <;> simp [behindInMarks,e1,e2]
theorem pe_cmpR {op:CmpOp} {r:R2} (ho:OpR X (compareOp op) r) (ha:PE X a ta) (hb:PE X b tb) (hm:behindInMarks op b = false):PE X (.Compare a [op] [b] pos) (tOp r ta tb):=by
  intro pins s σ H Q I h
  exact wpAny_Compare1 (binT ha hb I h fun v u s2 x y H2 I2 rx ry q => ho pins s2 σ H2 x y v u Q I2 rx ry q) hm
noncomputable def tTest (t:TE):TT:=fun σ H Q => t σ H fun x H' => ∃ k,x = .bl k /\ Q k H'
theorem pt_cmpR {op:CmpOp} {r:R2} (ho:OpR X (compareOp op) r) (ha:PE X a ta) (hb:PE X b tb) (hm:behindInMarks op b = false):PT X (.Compare a [op] [b] pos) (tTest (tOp r ta tb)):=by
  intro pins s σ H Q I h
  refine wpAny_isTrue_Compare1 (thn (ha pins s σ H _ I h) fun v s1 ⟨x,H1,I1,r1,q1⟩ => thn (hb pins s1 σ H1 _ I1 q1) fun u s2 ⟨y,H2,I2,r2,q2⟩ =>
    thn (ho pins s2 σ H2 x y v u _ I2 r1 r2 q2) fun c s3 ⟨z,H3,I3,r3,k,e,q3⟩ => ?_) hm
  subst e
  cases r3
  exact wpAny_truthy_bool ⟨H3,I3,q3⟩
noncomputable def tChain (r r':R2) (ta tb tc:TE):TE:=fun σ H Q => ta σ H fun x H1 => tb σ H1 fun y H2 => r x y H2 fun z H3 => ∃ k,z = .bl k /\
  (if k = true then tc σ H3 fun w' H4 => r' y w' H4 Q else Q (.bl false) H3)
theorem pe_chain {op op':CmpOp} {r r':R2} (ho:OpR X (compareOp op) r) (ho':OpR X (compareOp op') r') (ha:PE X a ta) (hb:PE X b tb) (hc:PE X c tc)
    (hm:lastMarks [op,op'] [b,c] = false:=by with_unfolding_all rfl):PE X (.Compare a [op,op'] [b,c] pos) (tChain r r' ta tb tc):=by
  intro pins s σ H Q I h
  refine Compare_chain (thn (ha pins s σ H _ I h) fun v s1 ⟨x,H1,I1,r1,q1⟩ => chain_link (thn (hb pins s1 σ H1 _ I1 q1) fun u s2 ⟨y,H2,I2,r2,q2⟩ =>
    thn (ho pins s2 σ H2 x y v u _ I2 r1 r2 q2) fun d s3 ⟨z,H3,I3,r3,k,e,q3⟩ => ?_)) hm
  subst e
  cases r3
  refine wpAny_truthy_bool ?_
  cases k with
  | false => exact ite_ff ⟨.bl false,H3,I3,rfl,q3⟩
  | true => exact ite_tt (chain_last (thn (hc pins s3 σ H3 _ I3 q3) fun w' s4 ⟨z',H4,I4,r4,q4⟩ => ho' pins s4 σ H4 y z' u w' Q I4 r2 r4 q4))
theorem line63:(sizeLine:Nat) < 2 ^ 63:=by rw [sizeLine_eq]; decide
theorem op_add_str:OpR X (binaryOp .Add) (fun x y H Q => ∃ i j,x = .str i /\ y = .str j /\ i.length + j.length <= sizeLine /\ Q (.str (i ++ j)) H):=by
  intro pins s σ H x y v u Q I rx ry h
  obtain ⟨i,j,rfl,rfl,hz,q⟩:=h
  obtain ⟨t,rfl⟩:=rx
  obtain ⟨t',rfl⟩:=ry
  exact add_str (fun t' tk => ⟨.str (i ++ j),H,I.tok _,⟨_,rfl⟩,q⟩) hz
theorem vals1 {x:V} {us:List Value} (r:Vals [x] us):∃ u,us = [u] /\ RelV x u:=by
  cases r with
  | cons r1 r2 => cases r2; exact ⟨_,rfl,r1⟩
theorem vals2 {x y:V} {us:List Value} (r:Vals [x,y] us):∃ u w',us = [u,w'] /\ RelV x u /\ RelV y w':=by
  cases r with
  | cons r1 r2 =>
    cases r2 with
    | cons r3 r4 => cases r4; exact ⟨_,_,rfl,r1,r3⟩
theorem call_abs:CallR X (.builtin "abs") (fun xs H Q => ∃ i,xs = [.int i] /\ Q (.int (if i < 0 then -i else i)) H):=by
  intro pins s σ H xs us Q I r h
  obtain ⟨i,rfl,q⟩:=h
  obtain ⟨u,rfl,t,rfl⟩:=vals1 r
  exact call_abs_int fun u tk => ⟨.int (if i < 0 then -i else i),H,I.tok _,⟨_,rfl⟩,q⟩
theorem call_max2 (hc:X.calm = true):CallR X (.builtin "max") (fun xs H Q => ∃ i j,xs = [.int i,.int j] /\ Q (.int (if j > i then j else i)) H):=by
  intro pins s σ H xs us Q I r h
  obtain ⟨i,j,rfl,q⟩:=h
  obtain ⟨u,w',rfl,⟨t,rfl⟩,⟨t',rfl⟩⟩:=vals2 r
  refine max_two_ints (I.ok.hd hc) fun h' tk k => ⟨_,H,I.kept k,?_,q⟩
  by_cases hj:j > i
  . rw [if_pos hj,if_pos hj]; exact ⟨_,rfl⟩
  . rw [if_neg hj,if_neg hj]; exact ⟨_,rfl⟩
theorem call_min2 (hc:X.calm = true):CallR X (.builtin "min") (fun xs H Q => ∃ i j,xs = [.int i,.int j] /\ Q (.int (if j < i then j else i)) H):=by
  intro pins s σ H xs us Q I r h
  obtain ⟨i,j,rfl,q⟩:=h
  obtain ⟨u,w',rfl,⟨t,rfl⟩,⟨t',rfl⟩⟩:=vals2 r
  refine min_two_ints (I.ok.hd hc) fun h' tk k => ⟨_,H,I.kept k,?_,q⟩
  by_cases hj:j < i
  . rw [if_pos hj,if_pos hj]; exact ⟨_,rfl⟩
  . rw [if_neg hj,if_neg hj]; exact ⟨_,rfl⟩
noncomputable def LenV (K:PySem.W.Frag) (x:V) (H:Hp) (n:Nat):Prop :=
  match x with
  | .str y => y.length <= sizeLine /\ n = y.length
  | .byt y => y.size <= sizeLine /\ n = y.size
  | .ref p => (∃ xs,SqL K H p xs /\ n = xs.length) ∨ ∃ xs,SqT K H p xs /\ n = xs.length
  | _ => False
theorem call_len:CallR X (.builtin "len") (fun xs H Q => ∃ x n,xs = [x] /\ LenV X.K x H n /\ Q (.int n) H):=by
  intro pins s σ H xs us Q I r h
  obtain ⟨x,n,rfl,e,q⟩:=h
  obtain ⟨u,rfl,rx⟩:=vals1 r
  have hl:=line63
  have hs:sizeLine = 16777216:=sizeLine_eq
  cases x with
  | str y =>
    obtain ⟨t,rfl⟩:=rx
    obtain ⟨hy,e'⟩:y.length <= sizeLine /\ n = y.length:=e
    subst e'
    exact len_str (by omega) ⟨.int _,H,I.tok _,⟨_,rfl⟩,q⟩
  | byt y =>
    obtain ⟨t,rfl⟩:=rx
    obtain ⟨hy,e'⟩:y.size <= sizeLine /\ n = y.size:=e
    subst e'
    exact PySem.W.len_bytes (by omega) ⟨.int _,H,I.tok _,⟨_,rfl⟩,q⟩
  | ref p =>
    cases rx
    have e':(∃ xs,SqL X.K H p xs /\ n = xs.length) ∨ ∃ xs,SqT X.K H p xs /\ n = xs.length:=e
    rcases e' with ⟨xs,hx,e'⟩ | ⟨xs,hx,e'⟩
    . subst e'
      obtain ⟨its,r',pl,hz⟩:=I.list hx
      have hlen:=r'.length
      exact Calls.call_len_list pl.isList (by simp only [List.size_toArray]; omega) ⟨.int xs.length,H,I.tok _,⟨_,by simp only [List.size_toArray]; rw [hlen]⟩,q⟩
    . subst e'
      obtain ⟨its,r',pl,hz⟩:=I.tuple hx
      have hlen:=r'.length
      exact len_tuple pl (by simp only [List.size_toArray]; omega) ⟨.int xs.length,H,I.tok _,⟨_,by simp only [List.size_toArray]; rw [hlen]⟩,q⟩
  | _ => exact (show False from e).elim
end
end L2
namespace L2
open PySem PySem.Spec PyProof.Rows
structure ObjM (h:Heap) (x dx C:Addr) (mA:Str -> Option Value):Prop where
  obj:h.get? x = some (PySem.W.instObj C dx)
  ns:h.Ns1 dx mA
  ne:dx ≠ x
theorem lookIn_ns {h:Heap} {dx:Addr} {mA:Str -> Option Value} (n:h.Ns1 dx mA):∃ od,h.get? dx = some od /\ ∀ name,PySem.W.lookIn name od = some (mA name):=by
  obtain ⟨o,es,ep,ho,hd,hk,_,hm⟩:=n
  refine ⟨o,ho,fun name => ?_⟩
  have e:=hm name
  unfold nsFind findBy at e
  rw [← Array.find?_toList] at e
  unfold PySem.W.lookIn
  rw [hd]
  dsimp only
  split
  . rename_i y q
    rw [q] at e
    exact congrArg some e
  . rename_i q
    rw [q] at e
    have a:es.toList.any (·.refKey) = false:=by
      rw [List.any_eq_false]
      intro y hy
      obtain ⟨z,t,hkey⟩:=hk y (Array.mem_toList_iff.mp hy)
      simp [DictEntry.refKey,hkey]
    have a':¬ es.toList.any (·.refKey) = true:=by rw [a]; exact Bool.false_ne_true
    rw [if_neg a']
    exact congrArg some e
theorem ObjM.look {h:Heap} {x dx C:Addr} {mA:Str -> Option Value} (I:ObjM h x dx C mA):∃ od,PySem.W.InstAt h x (PySem.W.instObj C dx) C (some od) /\ ∀ name,PySem.W.lookIn name od = some (mA name) :=
  let ⟨od,ho,hl⟩:=lookIn_ns I.ns
  ⟨od,⟨I.obj,rfl,rfl,ho⟩,hl⟩
section
variable {prog:Program} {w:World} {A:Around} {E:Value -> Shared -> Prop} {s:Shared} {K:PySem.W.Frag} {x dx C f:Addr} {mA:Str -> Option Value} {name:Str} {v:Value}
end
theorem RelO.some_of {v:V} {o:Option Value} (r:RelO (some v) o):∃ u,o = some u /\ RelV v u:=by
  cases o with
  | none => exact (show False from r).elim
  | some u => exact ⟨u,rfl,r⟩
theorem handed_of {v:V} {u:Value} (r:RelV v u):PySem.W.handedIn u = true:=by
  cases v with
  | non => cases (show u = Value.none from r); rfl
  | bl b => cases (show u = Value.bool b from r); rfl
  | int i => obtain ⟨t,e⟩:=(show ∃ t,u = Value.int i t from r); cases e; rfl
  | str x => obtain ⟨t,e⟩:=(show ∃ t,u = Value.str x t from r); cases e; rfl
  | byt b => obtain ⟨t,e⟩:=(show ∃ t,u = Value.bytes b t from r); cases e; rfl
  | flt b => obtain ⟨t,e⟩:=(show ∃ t,u = Value.float b t from r); cases e; rfl
  | ref a => cases (show u = Value.ref a from r); rfl
  | ty n => cases (show u = Value.type n from r); rfl
section
variable {P:Program} {w:World} {H H':Hp} {h h':Heap} {a C dx:Addr} {fs fs':List (Str×V)}
theorem ins_get (hok:HOk P w H h) (e:H a = some (.ins C dx fs)):∃ mA,ObjM h a dx C mA /\ (∀ f,RelO (fs.lookup f) (mA f)) /\ PySem.Within mA (fs.map (·.1)) /\ fs.length <= 1000 /\ H dx = some (.own a):=by
  obtain ⟨d,z,ne,ob,mA,n,r,q⟩:=(show ObjOk P w H h a (.ins C dx fs) from hok a _ e)
  exact ⟨mA,⟨ob,n,ne⟩,r,q,z,d⟩
end
structure Cls (K:PySem.W.Frag) (C:Addr):Prop where
  pg:PySem.W.plainGet K C Str.empty = true
  hd:PySem.W.hasDictIn K C = true
  po:PySem.W.plainOver K C = true
  sa:PySem.W.findIn K (.ref C) "__setattr__" = some (some (.builtin "object.__setattr__"))
theorem Cls.get {K:PySem.W.Frag} {C:Addr} (c:Cls K C) (f:Str):PySem.W.plainGet K C f = true:=c.pg
section
variable {X:Cx} {pins:List (Addr×Obj)} {σ:St} {H:Hp} {s:Shared} {a C dx:Addr} {fs:List (Str×V)} {f:Str} {v:V} {A:Around} {E:Value -> Shared -> Prop}
theorem attr_of {prog:Program} {w:World} {env:Env} {e:Expr} {f:Str} {pos:Pos} {s:Shared} {Q:Value -> Shared -> Prop} (hb:attributeBase e f env (eval e env) = eval e env)
    (h:wpAny (model prog w) A (eval e env) (fun o s₁ => wpAny (model prog w) A (getAttr o f true) Q E s₁) E s):wpAny (model prog w) A (eval (.Attribute e f pos) env) Q E s :=
  Attribute_any_ h (by rw [arm_eval_Attribute,hb])
end
section
variable {X:Cx} {o e value:Expr} {f:Str} {pos pos' tpos:Pos} {ta tv:TE}
end
section
variable {X:Cx} {pins:List (Addr×Obj)} {σ:St} {H:Hp} {s:Shared} {A:Around} {E:Value -> Shared -> Prop} {Q:Value -> Shared -> Prop} {c:Value} {b:Bool}
inductive TyOf (K:PySem.W.Frag) (H:Hp):V -> Value -> Prop where
  | non:TyOf K H .non (.type "NoneType")
  | bl (x:Bool):TyOf K H (.bl x) (.type "bool")
  | int (i:Int):TyOf K H (.int i) (.type "int")
  | str (x:Str):TyOf K H (.str x) (.type "str")
  | flt (x:UInt64):TyOf K H (.flt x) (.type "float")
  | lst {a:Addr} {xs:List V} (e:H a = some (.lst xs)):TyOf K H (.ref a) (.type "list")
  | frz {a:Addr} {o:Obj} {xs:List V} (e:H a = some (.frz o (.lst xs))):TyOf K H (.ref a) (.type "list")
  | tup {a:Addr} {xs:List V} (e:H a = some (.tup xs)):TyOf K H (.ref a) (.type "tuple")
  | dK {a:Addr} {kvs:List (Key×V)} (e:H a = some (.dK kvs)):TyOf K H (.ref a) (.type "dict")
  | dT {a:Addr} {kvs:List (List Key×V)} (e:H a = some (.dT kvs)):TyOf K H (.ref a) (.type "dict")
  | ins {a C dx:Addr} {fs:List (Str×V)} (e:H a = some (.ins C dx fs)) (cl:Cls K C) (ha:PySem.W.findIn K (.ref C) "__class__" = some (some (.builtin "object.__class__")))
      (hn:PySem.W.specialIn K (.builtin "object.__class__") "__get__" = some (some (.builtin "getset_descriptor.__get__"))) (htk:PySem.W.takesIn K (.builtin "object.__class__") = some true)
      (hm:PySem.W.mroIn K C (.type "object") = some true):TyOf K H (.ref a) (.ref C)
theorem isinst_ok {x:V} {u t:Value} (I:Inv X pins σ H s) (rx:RelV x u) (ty:TyOf X.K H x t) (e:PySem.W.kitOne X.K t c = some b) (h:∀ tk,Q (.bool b) { s with toks:=tk }) :
    wpAny (model X.prog X.w) A (call (.builtin "isinstance") [u,c]) Q E s:=by
  cases ty with
  | non => cases (show u = Value.none from rx); exact PySem.W.kia_one PySem.W.kitx_none I.kIn True.intro e (fun z => nomatch z) h
  | bl y => cases (show u = Value.bool y from rx); exact PySem.W.kia_one PySem.W.kitx_bool I.kIn True.intro e (fun z => nomatch z) h
  | int i => obtain ⟨t,q⟩:=(show ∃ t,u = Value.int i t from rx); cases q; exact PySem.W.kia_one PySem.W.kitx_int I.kIn True.intro e (fun z => nomatch z) h
  | str y => obtain ⟨t,q⟩:=(show ∃ t,u = Value.str y t from rx); cases q; exact PySem.W.kia_one PySem.W.kitx_str I.kIn True.intro e (fun z => nomatch z) h
  | flt y => obtain ⟨t,q⟩:=(show ∃ t,u = Value.float y t from rx); cases q; exact PySem.W.kia_one PySem.W.kitx_float I.kIn True.intro e (fun z => nomatch z) h
  | @lst a xs ea =>
    cases (show u = Value.ref a from rx)
    obtain ⟨_,_,n,_,h1⟩:=(show ObjOk X.prog X.w H s.heap a (.lst xs) from I.hok a _ ea)
    exact PySem.W.kia_one PySem.W.kitx_list I.kIn ⟨_,h1,rfl⟩ e (fun z => nomatch z) h
  | @frz a ob xs ea =>
    cases (show u = Value.ref a from rx)
    obtain ⟨_,_,_,n,_,h1⟩:=(show ObjOk X.prog X.w H s.heap a (.frz ob (.lst xs)) from I.hok a _ ea)
    exact PySem.W.kia_one PySem.W.kitx_list I.kIn ⟨_,h1,rfl⟩ e (fun z => nomatch z) h
  | @tup a xs ea =>
    cases (show u = Value.ref a from rx)
    obtain ⟨_,_,_,p⟩:=(show ObjOk X.prog X.w H s.heap a (.tup xs) from I.hok a _ ea)
    obtain ⟨o,h1,h2,_⟩:=p
    exact PySem.W.kia_one PySem.W.kitx_tuple I.kIn ⟨o,h1,h2⟩ e (fun z => nomatch z) h
  | @dK a kvs ea =>
    cases (show u = Value.ref a from rx)
    obtain ⟨_,_,vs,_,p⟩:=(show ObjOk X.prog X.w H s.heap a (.dK kvs) from I.hok a _ ea)
    obtain ⟨o,es,ep,h1,h2,_⟩:=p
    exact PySem.W.kia_one PySem.W.kitx_dict I.kIn ⟨o,h1,h2.1⟩ e (fun z => nomatch z) h
  | @dT a kvs ea =>
    cases (show u = Value.ref a from rx)
    obtain ⟨_,_,xs,_,o,es,ep,h1,h2,_⟩:=(show ObjOk X.prog X.w H s.heap a (.dT kvs) from I.hok a _ ea)
    exact PySem.W.kia_one PySem.W.kitx_dict I.kIn ⟨o,h1,h2.1⟩ e (fun z => nomatch z) h
  | @ins a C dx fs ea cl ha hn htk hm =>
    cases (show u = Value.ref a from rx)
    obtain ⟨mA,O,_⟩:=ins_get I.hok ea
    obtain ⟨od,J,_⟩:=O.look
    exact PySem.W.kia_one (PySem.W.kitx_own (cl.get _) cl.hd ha hn htk hm) I.kIn J e (fun z => nomatch z) h
end
end L2
namespace L2
open PySem PySem.Spec PyProof.Rows
structure Room (k:Nat) (A:Around):Prop where
  hd:A.handled = none
  dp:A.depth + 3 * k + 5 < recursionLimit
  un:A.units + 16 * k + 200 < cLine
theorem Room.mono {j k:Nat} {A:Around} (r:Room k A) (h:j <= k):Room j A:=⟨r.hd,by have:=r.dp; omega,by have:=r.un; omega⟩
theorem Room.deeper {k:Nat} {A:Around} (r:Room (k + 1) A) (env:Env):Room k (A.deeper env) :=
  ⟨r.hd,by have:=r.dp; show A.depth + 1 + 3 * k + 5 < _; omega,by have:=r.un; show A.units + 3 + 16 * k + 200 < _; omega⟩
theorem make_depth {A:Around} {C:Addr} {us:List Value} {kw:List (Str×Value)}:(A.under (.builtin "type.__call__" ⟨.ref C :: us,kw⟩)).depth = A.depth + 1:=by
  first | rfl | simp [Around.under,Code.weight,Code.isCreation,Code.isGuard,Code.isCaller,Code.frames,Code.isFrame,guardIds]
theorem make_units {A:Around} {C:Addr} {us:List Value} {kw:List (Str×Value)}:(A.under (.builtin "type.__call__" ⟨.ref C :: us,kw⟩)).units = A.units + 1:=by
  first | rfl | simp [Around.under,Code.cUnits,Code.frames,Code.isFrame]
theorem Room.make {k:Nat} {A:Around} (r:Room (k + 1) A) (C:Addr) (us:List Value) (kw:List (Str×Value)):Room k (A.under (.builtin "type.__call__" ⟨.ref C :: us,kw⟩)) :=
  ⟨r.hd,by have:=r.dp; rw [make_depth]; omega,by have:=r.un; rw [make_units]; omega⟩
theorem Room.depth {k:Nat} {A:Around} (r:Room k A):A.depth < recursionLimit:=by have:=r.dp; omega
theorem Room.units {k:Nat} {A:Around} (r:Room k A):A.units + 64 < cLine:=by have:=r.un; omega
noncomputable def tNil:TA:=fun _ H Q => Q [] H
noncomputable def tCons (ta:TE) (tr:TA):TA:=fun σ H Q => ta σ H fun x H1 => tr σ H1 fun xs H2 => Q (x :: xs) H2
section
variable {X:Cx} {e:Expr} {es:List Expr} {te:TE} {t:TA} {pos:Pos}
theorem pa_nil:PA X [] tNil:=fun _ _ _ _ H Q I h => Calls.spliced_nil ⟨[],H,I,.nil,h⟩
theorem pa_cons (ha:PE X e te) (hr:PA X es t) (hs:starEach (e :: es) X.env = (false,eval e X.env) :: starEach es X.env:=by rfl):PA X (e :: es) (tCons te t):=by
  intro pos pins s σ H Q I h
  rw [hs]
  show wpAny _ _ (spliced ((false,eval e X.env) :: backTo pos (starEach es X.env))) _ _ s
  refine Calls.spliced_cons (thn (ha pins s σ H _ I h) fun u s1 ⟨x,H1,I1,r1,q1⟩ => ?_)
  exact thn (hr pos pins s1 σ H1 _ I1 q1) fun us s2 ⟨xs,H2,I2,r2,q2⟩ => ⟨x :: xs,H2,I2,.cons r1 r2,q2⟩
noncomputable def tTup (t:TA):TE:=fun σ H Q => t σ H fun xs H1 => xs.length <= sizeLine /\ ∀ p,H1 p = none -> Q (.ref p) (upd H1 p (.tup xs))
noncomputable def tLst (t:TA):TE:=fun σ H Q => t σ H fun xs H1 => xs.length <= sizeLine /\ ∀ p,H1 p = none -> Q (.ref p) (upd H1 p (.lst xs))
theorem pe_tup {x1} (h:PA X es t):PE X (.Tuple es x1 pos) (tTup t):=by
  intro pins s σ H Q I hq
  refine wpAny_Tuple_spliced (thn (h pos pins s σ H _ I hq) fun us s1 ⟨xs,H1,I1,r,z,q⟩ => ⟨by rw [← r.length]; exact z,?_⟩)
  have hf:H1 s1.heap.objs.size = none:=I1.hok.fresh (Nat.le_refl _)
  refine ⟨.ref s1.heap.objs.size,upd H1 s1.heap.objs.size (.tup xs),I1.laid (t':=s1.toks) (fun b u e => Heap.get?_push_of_some _ e) (Nat.le_refl _) ?_,rfl,q _ hf⟩
  exact ⟨⟨z,_,Heap.get?_push_size _ rfl,rfl⟩,us,r,⟨_,Heap.get?_push_size _ rfl,rfl,_,rfl⟩⟩
theorem pe_lst (h:PA X es t):PE X (.List es pos) (tLst t):=by
  intro pins s σ H Q I hq
  refine wpAny_List_spliced (thn (h pos pins s σ H _ I hq) fun us s1 ⟨xs,H1,I1,r,z,q⟩ => ⟨by rw [← r.length]; exact z,?_⟩)
  have hf:H1 s1.heap.objs.size = none:=I1.hok.fresh (Nat.le_refl _)
  refine ⟨.ref s1.heap.objs.size,upd H1 s1.heap.objs.size (.lst xs),I1.laid (t':=s1.toks) (fun b u e => Heap.get?_push_of_some _ e) (Nat.le_refl _) ?_,rfl,q _ hf⟩
  exact ⟨z,us,0,r,Heap.get?_push_size _ rfl⟩
end
noncomputable abbrev Sp:=List V -> Hp -> VK -> XK -> Prop
noncomputable abbrev CXT:=List Env -> Hp -> Shared -> XK -> Value -> Shared -> Prop
structure Env0 (P:Program) (w:World) (K:PySem.W.Frag) (mg:Str -> Option Value) (base:Heap) (A:Around) (outer:List Env) (s:Shared) (H:Hp):Prop where
  frames:A.frames = some outer
  mod:Mod K mg base
  bs:∀ b o,base.get? b = some o -> s.heap.get? b = some o /\ H b = none
  bsz:base.objs.size <= s.heap.objs.size
  funs:s.heap.FunFrames base outer
  frf:∀ b ∈ frs outer,H b = none
  hok:HOk P w H s.heap
  bare:AllBare s.gens
noncomputable def CE (outer:List Env) (P:Program) (w:World) (H:Hp) (s:Shared) (Q:VK) (u:Value) (s':Shared):Prop :=
  ∃ v H',s'.os = s.os /\ AllBare s'.gens /\ Un (frs outer) [] H H' s.heap s'.heap /\ HOk P w H' s'.heap /\ RelV v u /\ Q v H'
noncomputable def CR (CX:CXT) (outer:List Env) (P:Program) (w:World) (H:Hp) (s:Shared) (Q:VK) (E:XK) (r:Result) (s':Shared):Prop :=
  match r with
  | .ok (.ret u) => CE outer P w H s Q u s'
  | .ok _ => False
  | .error e => CX outer H s E e s'
structure FnOk (P:Program) (w:World) (K:PySem.W.Frag) (mg:Str -> Option Value) (base:Heap) (CX:CXT) (k:Nat) (f:Addr) (fd:FuncData) (ps:List Str) (sp:Sp):Prop where
  len:∀ vs H Q E,sp vs H Q E -> vs.length = ps.length
  run:∀ (A:Around) (outer:List Env) (s:Shared) (H:Hp) (args:Args) (us:List Value) (vs:List V) (Q:VK) (E:XK),Room k A -> Env0 P w K mg base A outer s H -> BindsTo s fd args (ps.zip us) -> Vals vs us -> sp vs H Q E ->
    codeAny (model P w) A (.call (.ref f) args) (CR CX outer P w H s Q E) s
theorem FnOk.mono {P:Program} {w:World} {K:PySem.W.Frag} {mg:Str -> Option Value} {base:Heap} {CX:CXT} {j k:Nat} {f:Addr} {fd:FuncData} {ps:List Str} {sp:Sp} (F:FnOk P w K mg base CX j f fd ps sp) (h:j <= k) :
    FnOk P w K mg base CX k f fd ps sp:=⟨F.len,fun A outer s H args us vs Q E hr => F.run A outer s H args us vs Q E (hr.mono h)⟩
theorem Env0.make {P:Program} {w:World} {K:PySem.W.Frag} {mg:Str -> Option Value} {base:Heap} {A:Around} {outer:List Env} {s:Shared} {H:Hp} (e:Env0 P w K mg base A outer s H) (C:Addr) (us:List Value) (kw:List (Str×Value)) :
    Env0 P w K mg base (A.under (.builtin "type.__call__" ⟨.ref C :: us,kw⟩)) outer s H:=⟨by first | exact e.frames | (simpa [Around.under,Code.envs,Code.isFrame,pushEnvs] using e.frames),e.mod,e.bs,e.bsz,e.funs,e.frf,e.hok,e.bare⟩
section
variable {X:Cx} {pins:List (Addr×Obj)} {σ:St} {H:Hp} {s s':Shared}
theorem Inv.env0 (I:Inv X pins σ H s):Env0 X.prog X.w X.K X.mg X.base X.A X.stack s H :=
  ⟨I.ok.frames,I.ok.mod,I.bs,Nat.le_trans I.ok.bsz I.sz,I.stack,I.stkFree,I.hok,I.bare⟩
theorem Inv.after {Q:VK} {u:Value} (I:Inv X pins σ H s) (h:CE X.stack X.prog X.w H s Q u s'):EP X pins σ Q u s':=by
  obtain ⟨v,H',os,bare,un,hok,r,q⟩:=h
  obtain ⟨hh,g,d,t,os'⟩:=s'
  obtain rfl:os' = s.os:=os
  exact ⟨v,H',I.call (h':=hh) (g':=g) (d':=d) (t':=t) (ch:=[]) un hok bare (fun b z => absurd z (by simp)),r,q⟩
end
noncomputable def tCall (sp:Sp) (dvs:List V) (E:XK) (t:TA):TE:=fun σ H Q => t σ H fun vs H1 => sp (vs ++ dvs) H1 Q E
noncomputable def Binds (K:PySem.W.Frag) (fd:FuncData) (ps:List Str) (ds:List Value):Prop :=
  ∀ (s:Shared) (us:List Value),K.In s.heap -> (us ++ ds).length = ps.length -> BindsTo s fd ⟨us,[]⟩ (ps.zip (us ++ ds))
theorem Binds.all {K:PySem.W.Frag} {fd:FuncData} {ps:List Str} (h:∀ us:List Value,us.length = ps.length -> bindArgs fd ⟨us,[]⟩ = pure (ps.zip us)):Binds K fd ps []:=fun s us _ hl => by
  rw [List.append_nil] at hl ⊢
  exact .of_eq (h us hl)
noncomputable def Passes (CX:CXT) (X:Cx) (E:XK):Prop:=∀ (pins:List (Addr×Obj)) (σ:St) (H:Hp) (s:Shared) (e:Value) (s':Shared),Inv X pins σ H s -> CX X.stack H s E e s' -> X.xe e s'
section
variable {X:Cx} {CX:CXT} {k:Nat} {f C:Addr} {fd:FuncData} {ps:List Str} {sp:Sp} {dvs:List V} {ds:List Value} {E:XK} {x m:Str} {p pos apos:Pos} {e o:Expr} {es:List Expr} {ta:TE} {t:TA}
theorem run_fn {pins:List (Addr×Obj)} {σ:St} {H:Hp} {s:Shared} {Q:VK} {us:List Value} {vs:List V} (F:FnOk X.prog X.w X.K X.mg X.base CX k f fd ps sp) (hr:Room k X.A) (hb:Binds X.K fd ps ds) (hd:Vals dvs ds) (hx:Passes CX X E)
    (I:Inv X pins σ H s) (r:Vals vs us) (h:sp (vs ++ dvs) H Q E):wpAny (model X.prog X.w) X.A (call (.ref f) us) (EP X pins σ Q) X.xe s:=by
  have r2:Vals (vs ++ dvs) (us ++ ds):=r.append hd
  have hl:(us ++ ds).length = ps.length:=by rw [← r2.length]; exact F.len _ _ _ _ h
  refine wpAny_call (codeAny_mono (F.run X.A X.stack s H ⟨us,[]⟩ (us ++ ds) (vs ++ dvs) Q E hr I.env0 (hb s us I.kIn hl) r2 h) fun r s' hq => ?_)
  cases r with
  | error e => exact hx pins σ H s e s' I hq
  | ok fl =>
    cases fl with
    | ret u => exact I.after hq
    | next => exact False.elim hq
    | brk => exact False.elim hq
    | cont => exact False.elim hq
theorem pe_call (F:FnOk X.prog X.w X.K X.mg X.base CX k f fd ps sp) (hr:Room k X.A) (hg:Gl X x) (hm:X.mg x = some (.ref f)) (hk:PySem.W.keepIn X.K (.ref f) = true) (hb:Binds X.K fd ps ds) (hd:Vals dvs ds) (hx:Passes CX X E)
    (ha:PA X (e :: es) t) (hdb:(x == ("__debug__":Str)) = false:=by decide) (he:starEach (e :: es) X.env = (false,eval e X.env) :: starEach es X.env:=by rfl) (hpl:(backTo pos (starEach es X.env)).any (·.1) = false:=by rfl) :
    PE X (.Call (.Name x p) (e :: es) [] pos) (tCall sp dvs E t):=by
  intro pins s σ H Q I h
  refine wpAny_Call_Name_kw (ld_glob I hg hm ?_ hdb)
  refine PySem.W.callWith_K (h₀:=X.base) I.ok.mod.kin hk (thn (ha pos pins s σ H _ I h) fun us s1 ⟨vs,H1,I1,r,q⟩ => ⟨I1.kIn,?_⟩) he hpl
  exact run_fn F hr hb hd hx I1 r q
end
section
variable {X:Cx} {CX:CXT} {k:Nat} {f C:Addr} {fd:FuncData} {ps ks:List Str} {sp:Sp} {E:XK} {x m:Str} {p pos apos kpos:Pos} {e o:Expr} {es:List Expr} {kws:List Keyword} {te ta:TE} {t tk:TA} {nm:Option Str}
variable {g:List Value -> List Value -> List Value} {gV:List V -> List V -> List V}
end
structure FnScope (N P:List Str) (sc:Scope):Prop where
  kind:sc.kind = .function
  co:sc.isCoroutine = false
  gen:sc.isGenerator = false
  nd:N.Nodup
  pre:N.take P.length = P
  par:∀ x ∈ P,sc.names.lookup x = some .local ∨ sc.names.lookup x = some .cell
  nofree:∀ y ∈ sc.names,y.2 ≠ .free
theorem bindL_out {kindOf:Str -> Option NameKind} {x:Str}:∀ {binds:List (Str×Value)} {m:Str -> Option Value},(∀ v,(x,v) ∉ binds) -> bindL kindOf binds m x = m x
  | [],_,_ => rfl
  | (n,v) :: r,m,h => by
    unfold bindL
    rw [bindL_out fun w hw => h w (List.mem_cons_of_mem _ hw)]
    split
    . have:x ≠ n:=by rintro rfl; exact h v List.mem_cons_self
      simp [this]
    . rfl
theorem bindC_out {kindOf:Str -> Option NameKind} {x:Str}:∀ {binds:List (Str×Value)} {m:Str -> Option Value},(∀ v,(x,v) ∉ binds) -> bindC kindOf binds m x = m x
  | [],_,_ => rfl
  | (n,v) :: r,m,h => by
    unfold bindC
    rw [bindC_out fun w hw => h w (List.mem_cons_of_mem _ hw)]
    split
    . rfl
    . have:x ≠ n:=by rintro rfl; exact h v List.mem_cons_self
      simp [this]
theorem bindL_get {kindOf:Str -> Option NameKind} {x:Str} {v:Value}:∀ {P:List Str} {vs:List Value} {i:Nat} {m:Str -> Option Value},P.Nodup -> P[i]? = some x -> vs[i]? = some v -> kindOf x = some .local ->
    bindL kindOf (P.zip vs) m x = some v
  | [],_,_,_,_,h,_,_ => by simp at h
  | _ :: _,[],_,_,_,_,h,_ => by simp at h
  | p :: P,w :: vs,0,m,nd,h1,h2,hk => by
    simp at h1 h2; subst h1; subst h2
    show bindL kindOf ((p,w) :: P.zip vs) m p = _
    unfold bindL
    rw [bindL_out fun v hv => (List.nodup_cons.mp nd).1 (List.of_mem_zip hv).1,if_pos hk]
    simp
  | p :: P,w :: vs,i + 1,m,nd,h1,h2,hk => by
    show bindL kindOf ((p,w) :: P.zip vs) m x = _
    unfold bindL
    exact bindL_get (i:=i) (List.nodup_cons.mp nd).2 (by simpa using h1) (by simpa using h2) hk
theorem bindC_get {kindOf:Str -> Option NameKind} {x:Str} {v:Value}:∀ {P:List Str} {vs:List Value} {i:Nat} {m:Str -> Option Value},P.Nodup -> P[i]? = some x -> vs[i]? = some v -> kindOf x ≠ some .local ->
    bindC kindOf (P.zip vs) m x = some v
  | [],_,_,_,_,h,_,_ => by simp at h
  | _ :: _,[],_,_,_,_,h,_ => by simp at h
  | p :: P,w :: vs,0,m,nd,h1,h2,hk => by
    simp at h1 h2; subst h1; subst h2
    show bindC kindOf ((p,w) :: P.zip vs) m p = _
    unfold bindC
    rw [bindC_out fun v hv => (List.nodup_cons.mp nd).1 (List.of_mem_zip hv).1,if_neg hk]
    simp
  | p :: P,w :: vs,i + 1,m,nd,h1,h2,hk => by
    show bindC kindOf ((p,w) :: P.zip vs) m x = _
    unfold bindC
    exact bindC_get (i:=i) (List.nodup_cons.mp nd).2 (by simpa using h1) (by simpa using h2) hk
noncomputable def start (N:List Str) (vs:List V):St:=vs.map some ++ List.replicate (N.length - vs.length) none
noncomputable def cxOf (CX:CXT) (P:Program) (w:World) (K:PySem.W.Frag) (mg:Str -> Option Value) (base:Heap) (N:List Str) (qual:Str) (scope:Scope) (f:Addr) (cd:Value) (A:Around) (outer:List Env) (s:Shared) (H:Hp) (E:XK):Cx where
  prog:=P
  w:=w
  K:=K
  mg:=mg
  base:=base
  A:=A.deeper (envOfC qual scope s.heap.objs.size f cd)
  N:=N
  s₀:=s
  H₀:=H
  env:=envOfC qual scope s.heap.objs.size f cd
  outer:=outer
  stack:=envOfC qual scope s.heap.objs.size f cd :: outer
  ex:=[]
  calm:=true
  fn:=fun _ => true
  pn:=[]
  xe:=fun e s' => wpAny (model P w) (A.deeper (envOfC qual scope s.heap.objs.size f cd)) (leaving (envOfC qual scope s.heap.objs.size f cd) e) (fun _ s'' => CX outer H s E e s'') (fun e' s'' => CX outer H s E e' s'') s'
theorem cell_has {sc:Scope} {n:Nat} {x:Str} (h:sc.names.lookup x = some .cell):∃ c,(cellsFrom n sc.names []).lookup x = some c:=by
  have q:=PySem.W.cellsFrom_some sc.names n [] (.inl h)
  exact Option.isSome_iff_exists.mp q
theorem inv_start {CX:CXT} {P:Program} {w:World} {K:PySem.W.Frag} {mg:Str -> Option Value} {base:Heap} {N ps:List Str} {qual:Str} {scope:Scope} {f:Addr} {cd:Value} {A:Around} {outer:List Env} {s s1:Shared} {H:Hp} {E:XK} {us:List Value} {vs:List V}
    (S:FnScope N ps scope) (hd:A.handled = none) (e0:Env0 P w K mg base A outer s H) (hl:vs.length = ps.length) (r:Vals vs us)
    (x:InCallC s s.heap.objs.size (bindL (envOfC qual scope s.heap.objs.size f cd).kindOf (ps.zip us) fun _ => none) (cellsFrom (s.heap.objs.size + 1) scope.names []) (bindC (envOfC qual scope s.heap.objs.size f cd).kindOf (ps.zip us) fun _ => none) s1) :
    Inv (cxOf CX P w K mg base N qual scope f cd A outer s H E) [] (start N vs) H s1:=by
  have hpl:ps.length <= N.length:=by have:=congrArg List.length S.pre; rw [List.length_take] at this; omega
  obtain ⟨h1,tk,rfl,hk⟩:=x.done
  have noA:∀ b:Addr,b ∉ (cxOf CX P w K mg base N qual scope f cd A outer s H E).ex:=fun b z => absurd (show b ∈ ([]:List Addr) from z) (by simp)
  refine ⟨⟨e0.mod,S.kind,rfl,rfl,Nat.le_refl _,fun y z c h1 h2 => ?_,fun y hy => ?_,fun y c _ h => ?_,fun _ => hd,Around.frames_deeper e0.frames,.inr ⟨rfl,rfl⟩,fun b z => absurd z (noA b),e0.bs,e0.bsz,fun b _ _ => noA b,fun b z => absurd z (noA b),e0.funs,e0.frf⟩,
    rfl,e0.bare,Un.kept hk,⟨_,x.toInCall.ns,fun i y v h1 h2 h3 => ?_⟩,fun y c h => ⟨_,x.cell y c h⟩,e0.hok.fresh (Nat.le_refl _),fun y c h => ?_,fun p hp => absurd (show p ∈ ([]:List (Addr×Obj)) from hp) (by simp),e0.hok.kept hk,?_⟩
  . exact name_of_addr x.apart (PySem.mem_of_lookup h1) (PySem.mem_of_lookup h2)
  . have hy:scope.names.lookup y = some .cell ∨ scope.names.lookup y = some .free:=hy
    rcases hy with hy | hy
    . exact cell_has hy
    . exact absurd rfl (S.nofree _ (PySem.mem_of_lookup hy))
  . exact Nat.le_of_lt (x.above y c (PySem.mem_of_lookup h))
  . have hi:i < vs.length:=by
      unfold start at h2
      by_cases hi:i < vs.length
      . exact hi
      . rw [List.getElem?_append_right (by simpa using hi)] at h2
        rw [List.getElem?_replicate] at h2
        split at h2 <;> cases h2
    have ha:vs[i]? = some v:=by
      unfold start at h2
      rw [List.getElem?_append_left (by simpa using hi),List.getElem?_map] at h2
      cases e:vs[i]? with
      | none => rw [e] at h2; cases h2
      | some a => rw [e] at h2; cases h2; rfl
    obtain ⟨u,hu,rv⟩:=r.get ha
    have hp:ps[i]? = some y:=by
      rw [← S.pre,List.getElem?_take_of_lt (by omega)]; exact h1
    have ndP:ps.Nodup:=by rw [← S.pre]; exact S.nd.sublist (List.take_sublist _ _)
    refine ⟨u,rv,?_⟩
    rcases S.par y (List.mem_of_getElem? hp) with k | k
    . exact .inl ⟨k,bindL_get ndP hp hu k⟩
    . obtain ⟨c,e⟩:=cell_has (n:=s.heap.objs.size + 1) k
      refine .inr ⟨.inl k,c,e,?_⟩
      have q:=x.cell y c e
      rw [bindC_get ndP hp hu (by show scope.names.lookup y ≠ _; rw [k]; decide)] at q
      exact q
  . exact e0.hok.fresh (Nat.le_of_lt (x.above y c (PySem.mem_of_lookup h)))
  . unfold start
    show _ = N.length
    rw [List.length_append,List.length_map,List.length_replicate]
    omega
theorem fn_of {CX:CXT} {P:Program} {w:World} {K:PySem.W.Frag} {mg:Str -> Option Value} {base:Heap} {k:Nat} {f:Addr} {name qual:Str} {params:Arguments} {body:List Stmt} {scope:Scope} {dV kV doc pm cdv ct oc:Value} {an od:Option Addr}
    {osl:Array (Option Value)} {N ps:List Str} {sp:Sp} (lk:K.lookup f = some ⟨oc,od,.func (PySem.W.fnOf name qual params body scope dV kV doc pm an cdv ct),osl⟩) (hcd:PySem.W.codeIn K cdv qual = true) (S:FnScope N ps scope)
    (len:∀ vs H Q E,sp vs H Q E -> vs.length = ps.length)
    (hbody:∀ (A:Around) (outer:List Env) (s:Shared) (H:Hp) (vs:List V) (Q:VK) (E:XK),Room k (A.deeper (envOfC qual scope s.heap.objs.size f cdv)) -> sp vs H Q E ->
      ∃ t,PSs (cxOf CX P w K mg base N qual scope f cdv A outer s H E) body t /\ t { nx:=fun _ H' => Q .non H',rt:=Q } (start N vs) H) :
    FnOk P w K mg base CX (k + 1) f (PySem.W.fnOf name qual params body scope dV kV doc pm an cdv ct) ps sp:=by
  refine ⟨len,fun A outer s H args us vs Q E hr e0 hb r hsp => ?_⟩
  have hl:=len _ _ _ _ hsp
  have KX:K.In s.heap:=e0.mod.kin.keeps fun b o e => (e0.bs b o e).1
  have lim:s.heap.NoLimit:=e0.mod.nolimit.keeps fun b o e => (e0.bs b o e).1
  have hkind:∀ y ∈ ps.zip us,scope.names.lookup y.1 = some .local ∨ (scope.names.lookup y.1 = some .cell /\ ((cellsFrom (s.heap.objs.size + 1) scope.names []).lookup y.1).isSome = true):=fun ⟨n,v⟩ hy => by
    rcases S.par n (List.of_mem_zip hy).1 with q | q
    . exact .inl q
    . exact .inr ⟨q,PySem.W.cellsFrom_some _ _ _ (.inl q)⟩
  refine codeAny_call_function hr.depth (KX _ _ lk) rfl S.co S.gen rfl (PySem.W.codeRec_of KX hcd) (hb _ _ _ _ ?_)
  refine wpAny_newFunctionEnv_cells S.kind hkind fun env he s1 x => ?_
  subst he
  refine ⟨lim.keeps x.toInCall.keep,codeAny_func ?_⟩
  obtain ⟨t,ht,hq⟩:=hbody A outer s H vs Q E (hr.deeper _) hsp
  have I:Inv (cxOf CX P w K mg base N qual scope f cdv A outer s H E) [] (start N vs) H s1:=inv_start S hr.hd e0 hl r x
  refine wpAny_mono (ht [] s1 (start N vs) H _ I hq) (fun fl s' hs => ?_) fun e s' hs => hs
  have fin:∀ {σ':St} {H':Hp} {v:V} {u:Value},Inv (cxOf CX P w K mg base N qual scope f cdv A outer s H E) [] σ' H' s' -> RelV v u -> Q v H' -> CE outer P w H s Q u s' :=
    fun {σ' H' v u} J rv q => ⟨v,H',J.os,J.bare,J.base,J.hok,rv,q⟩
  cases fl with
  | ret u =>
    obtain ⟨v,σ',H',J,rv,q⟩:=hs
    exact fin J rv q
  | next =>
    obtain ⟨σ',H',J,q⟩:=hs
    exact fin (v:=V.non) (u:=Value.none) J rfl q
  | brk =>
    obtain ⟨_,_,_,q⟩:=hs
    exact False.elim q
  | cont =>
    obtain ⟨_,_,_,q⟩:=hs
    exact False.elim q
end L2
namespace L2
open PySem PySem.Spec PyProof.Rows
section
variable {X:Cx} {x:Str} {p pos:Pos} {e:Expr} {es:List Expr} {t:TA} {id T:String} {r:List V -> Hp -> VK -> Prop}
noncomputable def tCB (r:List V -> Hp -> VK -> Prop) (t:TA):TE:=fun σ H Q => t σ H fun vs H1 => r vs H1 Q
theorem pe_callB (hc:CallR X (.builtin id) r) (hg:Gl X x) (hm:X.mg x = none) (hv:bootBuiltins x = some (.builtin id)) (ha:PA X (e :: es) t) (hn:x ≠ "__name__":=by decide) (hdb:(x == ("__debug__":Str)) = false:=by decide)
    (he:starEach (e :: es) X.env = (false,eval e X.env) :: starEach es X.env:=by rfl) (hpl:(backTo pos (starEach es X.env)).any (·.1) = false:=by rfl):PE X (.Call (.Name x p) (e :: es) [] pos) (tCB r t):=by
  intro pins s σ H Q I h
  refine wpAny_Call_Name_kw (ld_blt I hg hm hv ?_ hn hdb)
  exact PyProof.Rows.callWith_builtin1 (thn (ha pos pins s σ H _ I h) fun us s1 ⟨vs,H1,I1,r1,q1⟩ => hc pins s1 σ H1 vs us Q I1 r1 q1) he hpl
theorem pe_callTy (hc:CallR X (.type T) r) (hg:Gl X x) (hm:X.mg x = none) (hv:bootBuiltins x = some (.type T)) (ha:PA X (e :: es) t) (hn:x ≠ "__name__":=by decide) (hdb:(x == ("__debug__":Str)) = false:=by decide)
    (he:starEach (e :: es) X.env = (false,eval e X.env) :: starEach es X.env:=by rfl) (hpl:(backTo pos (starEach es X.env)).any (·.1) = false:=by rfl):PE X (.Call (.Name x p) (e :: es) [] pos) (tCB r t):=by
  intro pins s σ H Q I h
  refine wpAny_Call_Name_kw (ld_blt I hg hm hv ?_ hn hdb)
  exact PyProof.Rows.callWith_type1 (thn (ha pos pins s σ H _ I h) fun us s1 ⟨vs,H1,I1,r1,q1⟩ => hc pins s1 σ H1 vs us Q I1 r1 q1) he hpl
end
end L2
namespace HT
open PySem PyProof.Rows
section
open PySem.SeqAt
open PySem.AutoSeq1 (wpAny_loadPart')
open PySem.MeetsSeq PySem.MeetsSeq2 PySem.MeetsSeq3
end
section
variable {prog:Program} {w:World} {A:Around} {E:Value -> Shared -> Prop} {s:Shared}
theorem cat_tup {t b:Addr} {vs ws:List Value} {Q:Value -> Shared -> Prop} (ht:IsTup s.heap t vs.toArray) (hb:IsTup s.heap b ws.toArray) (hv:vs ≠ [])
    (h1:ws = [] -> Q (.ref t) s) (h2:ws ≠ [] -> Q (.ref s.heap.objs.size) { s with heap:=s.heap.push { cls:=.type "tuple",data:=.seq (vs ++ ws).toArray } })
    (hsz:vs.length + ws.length <= sizeLine):wpAny (model prog w) A (binaryOp .Add (.ref t) (.ref b)) Q E s:=by
  obtain ⟨⟨cls,dd,data,sl⟩,ho,hc,n,hd⟩:=id ht
  obtain ⟨⟨cls2,dd2,data2,sl2⟩,ho2,hc2,n2,hd2⟩:=id hb
  simp only at hc hd hc2 hd2
  subst hc hd hc2 hd2
  have e:vs.toArray ++ ws.toArray = (vs ++ ws).toArray:=by simp
  by_cases hw:ws = []
  . exact concat_meets ⟨_,ho,rfl⟩ ⟨_,ho2,rfl⟩ noFill_tuple_add seq_tuple_add PySem.F.slot_tuple_add PySem.F.entry_tuple_add (PySem.F.args_tuple_add_2 _ _)
      (tuple_addW1 t b vs.toArray ws.toArray n n2 dd dd2 sl sl2 (by simpa using hv) (by simp [hw])) ⟨ho,ho2,h1 hw⟩
  . refine concat_meets ⟨_,ho,rfl⟩ ⟨_,ho2,rfl⟩ noFill_tuple_add seq_tuple_add PySem.F.slot_tuple_add PySem.F.entry_tuple_add (PySem.F.args_tuple_add_2 _ _)
      (tuple_addW2 t b vs.toArray ws.toArray n n2 dd dd2 sl sl2 (by simpa using hv) (by simpa using hw) (by rw [List.size_toArray,List.size_toArray]; exact hsz)) ⟨ho,ho2,?_⟩
    rw [e]
    exact h2 hw
noncomputable def sIx (n d:Nat):Option Int -> Nat
  | none => d
  | some v => if v < 0 then (v + (n:Int)).toNat else min v.toNat n
theorem sIx_none (n d:Nat):sIx n d none = d:=rfl
theorem sIx_nat (n d k:Nat):sIx n d (some (k:Int)) = min k n:=by
  show (if (k:Int) < 0 then ((k:Int) + (n:Int)).toNat else min (k:Int).toNat n) = min k n
  rw [if_neg (by omega),Int.toNat_natCast]
theorem sIx_le (n d:Nat) (hd:d <= n) (o:Option Int):sIx n d o <= n:=by
  cases o with
  | none => exact hd
  | some v =>
    show (if v < 0 then (v + (n:Int)).toNat else min v.toNat n) <= n
    by_cases hv:v < 0
    . rw [if_pos hv]; omega
    . rw [if_neg hv]; exact Nat.min_le_right _ _
theorem clip_eq (v:Int) (n d:Nat):(if v < 0 then max (v + (n:Int)) 0 else min v (n:Int)) = ((sIx n d (some v):Nat):Int):=by
  show (if v < 0 then max (v + (n:Int)) 0 else min v (n:Int)) = (((if v < 0 then (v + (n:Int)).toNat else min v.toNat n):Nat):Int)
  by_cases hv:v < 0
  . simp only [if_pos hv]; omega
  . simp only [if_neg hv]; omega
theorem adjust_gen (lo hi:Option Int) (n:Nat):Builtin.Slice.sliceAdjust lo hi 1 (n:Int) = (((sIx n 0 lo:Nat):Int),((sIx n n hi:Nat):Int)):=by
  have h1:¬ ((1:Int) < 0):=by omega
  unfold Builtin.Slice.sliceAdjust
  simp only [h1,if_false]
  refine Prod.ext ?_ ?_
  . cases lo with
    | none => rfl
    | some v => exact clip_eq v n 0
  . cases hi with
    | none => rfl
    | some v => exact clip_eq v n n
theorem places_gen (i j:Nat):Builtin.Slice.slicePlaces (i:Int) (j:Int) 1 = j - i:=by
  unfold Builtin.Slice.slicePlaces
  have h1:(1:Int) > 0:=by omega
  simp only [h1,if_true,Int.ediv_one]
  split <;> omega
theorem slicePart_ {v:Value} {o:Option Int} {Q:Option Int -> Shared -> Prop} (p:IsPart v o) (h:Q o s):wpAny (model prog w) A (Builtin.Slice.slicePartIndex v) Q E s:=by
  cases p with
  | none => exact slicePart_none h
  | int i t => exact slicePart_int h
theorem sliceApplied_gen {sl:Addr} {vl vu:Value} {lo hi:Option Int} {n:Nat} {Q:Int×Int×Nat -> Shared -> Prop} (hs:s.heap.IsSliceOf sl vl vu .none) (pl:IsPart vl lo) (pu:IsPart vu hi)
    (h:Q (((sIx n 0 lo:Nat):Int),1,sIx n n hi - sIx n 0 lo) s):wpAny (model prog w) A (Builtin.Slice.sliceApplied (.ref sl) (pure (n:Int))) Q E s:=by
  obtain ⟨os,hos,hcs,hds⟩:=id hs
  unfold Builtin.Slice.sliceApplied Builtin.Slice.sliceFields
  refine wpAny_bind (wpAny_bind (wpAny_field hos hds (x:=vl) rfl (wpAny_bind (wpAny_field hos hds (x:=vu) rfl (wpAny_bind (wpAny_field hos hds (x:=.none) rfl (wpAny_pure ?_)))))))
  refine wpAny_bind (slicePart_none ?_)
  show wpAny _ _ (if ((1:Int) == 0) = true then _ else _) _ _ s
  rw [if_neg (by decide)]
  refine wpAny_bind (slicePart_ pl (wpAny_bind (slicePart_ pu (wpAny_bind (wpAny_pure ?_)))))
  show wpAny _ _ (match Builtin.Slice.sliceAdjust lo hi 1 (n:Int) with | (lo,hi) => pure (lo,(1:Int),Builtin.Slice.slicePlaces lo hi 1)) _ _ s
  rw [adjust_gen lo hi n]
  show wpAny _ _ (pure (((sIx n 0 lo:Nat):Int),(1:Int),Builtin.Slice.slicePlaces ((sIx n 0 lo:Nat):Int) ((sIx n n hi:Nat):Int) 1)) _ _ s
  rw [places_gen]
  exact wpAny_pure h
theorem pick_gen (xs:Array Value) (i k:Nat):((List.range k).filterMap fun (m:Nat) => xs[((i:Int) + (m:Int) * 1).toNat]?).toArray = ((xs.toList.drop i).take k).toArray:=by
  have e:(fun (m:Nat) => xs[((i:Int) + (m:Int) * 1).toNat]?) = fun m => xs[i + m]?:=by
    funext m
    have:((i:Int) + (m:Int) * 1).toNat = i + m:=by omega
    rw [this]
  rw [e]
  have:=pick_run xs i k
  rw [List.filterMap_map] at this
  have e2:((fun x => xs[x]?) ∘ fun x => i + x) = fun m => xs[i + m]?:=rfl
  rw [e2] at this
  rw [this]
theorem getItem_tuple_cut {t sl:Addr} {items:Array Value} {vl vu:Value} {lo hi:Option Int} {Q:Value -> Shared -> Prop} (ht:IsTup s.heap t items) (hs:s.heap.IsSliceOf sl vl vu .none) (pl:IsPart vl lo) (pu:IsPart vu hi)
    (hw:¬ (sIx items.size 0 lo = 0 /\ sIx items.size items.size hi = items.size))
    (h:Q (.ref s.heap.objs.size) { s with heap:=s.heap.push { cls:=.type "tuple",data:=.seq ((items.toList.drop (sIx items.size 0 lo)).take (sIx items.size items.size hi - sIx items.size 0 lo)).toArray } })
    (hsz:items.size <= sizeLine):wpAny (model prog w) A (getItem (.ref t) (.ref sl)) Q E s:=by
  have htake:sizeOk (.seq ((items.toList.drop (sIx items.size 0 lo)).take (sIx items.size items.size hi - sIx items.size 0 lo)).toArray):=by
    show ((items.toList.drop (sIx items.size 0 lo)).take (sIx items.size items.size hi - sIx items.size 0 lo)).toArray.size <= sizeLine
    rw [List.size_toArray,List.length_take,List.length_drop,Array.length_toList]
    omega
  have hj:sIx items.size items.size hi <= items.size:=sIx_le _ _ (Nat.le_refl _) hi
  obtain ⟨os,hos,hcs,hds⟩:=id hs
  have hTs:s.TypeIs (.ref sl) "slice":=⟨os,hos,hcs⟩
  unfold getItem
  try with_reducible refine wpAny_holding ?_
  first | refine wpAny_bind (wpAny_pure ?_) | skip
  refine wpAny_bind (wpAny_sequenceKey ht.typeIs (by decide) ?_)
  refine wpAny_bind (wpAny_callSpecial?_slot (name:=Str.ofString "__getitem__") ht.typeIs PyProof.Rows.slot_tuple_getitem
    (wpAny_call_entry PyProof.Rows.slot_tuple_getitem ht.typeIs entry_tuple_getitem ?_ (args_tuple_getitem _ _)))
  show wpAny _ _ (Builtin.Tuple.tupleItemsOf (.ref t) >>= _) _ _ s
  refine wpAny_bind (tupleItemsOf_ ht ?_)
  refine wpAny_bind (wpAny_typeOf hTs ?_)
  rw [if_pos (by decide)]
  refine wpAny_bind (sliceApplied_gen hs pl pu ?_)
  have hno:¬ ((((sIx items.size 0 lo:Nat):Int) == 0 && (1:Int) == 1 && (sIx items.size items.size hi - sIx items.size 0 lo) == items.size) = true):=by
    intro q
    rw [Bool.and_eq_true,Bool.and_eq_true] at q
    have q1:((sIx items.size 0 lo:Nat):Int) = 0:=eq_of_beq q.1.1
    have q2:sIx items.size items.size hi - sIx items.size 0 lo = items.size:=eq_of_beq q.2
    exact hw ⟨by omega,by omega⟩
  show wpAny _ _ (if (((sIx items.size 0 lo:Nat):Int) == 0 && (1:Int) == 1 && (sIx items.size items.size hi - sIx items.size 0 lo) == items.size) = true then _ else _) _ _ s
  rw [if_neg hno,pick_gen]
  first
    | exact wpAny_bind (m:=Builtin.Tuple.tupleExact _) (wpAny_newObj_type (wpAny_pure ⟨_,rfl,wpAny_pure h⟩) htake)
    | exact wpAny_bind (m:=Builtin.Tuple.tupleExact _) (wpAny_newObj_type (wpAny_bind (wpAny_pure (wpAny_pure ⟨_,rfl,wpAny_pure h⟩))) htake)
    | exact wpAny_bind (wpAny_bind (m:=Builtin.Tuple.tupleExact _) (wpAny_newObj_type (wpAny_pure (wpAny_pure ⟨_,rfl,wpAny_pure h⟩)) htake))
    | exact wpAny_bind (wpAny_bind (m:=Builtin.Tuple.tupleExact _) (wpAny_newObj_type (wpAny_pure ⟨_,rfl,wpAny_pure h⟩) htake))
end
end HT
namespace L2
open PySem PySem.Spec PyProof.Rows
noncomputable abbrev TO:=St -> Hp -> (Option Int -> Hp -> Prop) -> Prop
noncomputable def PO (X:Cx) (e:Option Expr) (t:TO):Prop :=
  ∀ (pins:List (Addr×Obj)) (s:Shared) (σ:St) (H:Hp) (Q:Option Int -> Hp -> Prop),Inv X pins σ H s -> t σ H Q ->
    wpAny (model X.prog X.w) X.A (evalPart e X.env) (fun u s' => ∃ o H',Inv X pins σ H' s' /\ IsPart u o /\ Q o H') X.xe s
noncomputable def tNoPart:TO:=fun _ H Q => Q none H
noncomputable def tPart (t:TE):TO:=fun σ H Q => t σ H fun x H1 => ∃ i,x = .int i /\ Q (some i) H1
section
variable {X:Cx} {e:Expr} {te:TE} {lo hi:Option Expr} {tl th:TO} {pos p2:Pos}
theorem po_none:PO X none tNoPart:=by
  intro pins s σ H Q I h
  rw [evalPart_none]
  exact wpAny_pure ⟨none,H,I,.none,h⟩
theorem po_some (h:PE X e te):PO X (some e) (tPart te):=by
  intro pins s σ H Q I hw
  rw [evalPart_some]
  refine thn (h pins s σ H _ I hw) fun u s1 ⟨x,H1,I1,r1,q1⟩ => ?_
  obtain ⟨i,rfl,q⟩:=q1
  obtain ⟨t,rfl⟩:=r1
  exact ⟨some i,H1,I1,.int i t,q⟩
noncomputable def SlR (X:Cx) (r:V -> Option Int -> Option Int -> Hp -> VK -> Prop):Prop :=
  ∀ (pins:List (Addr×Obj)) (s:Shared) (σ:St) (H:Hp) (x:V) (v vl vu:Value) (lo hi:Option Int) (sl:Addr) (Q:VK),Inv X pins σ H s -> RelV x v -> s.heap.IsSliceOf sl vl vu .none -> IsPart vl lo -> IsPart vu hi -> r x lo hi H Q ->
    ∃ T id,typeLookup (.type T) "__getitem__" = pure (some (.builtin id)) /\ s.TypeIs v T /\ wpAny (model X.prog X.w) X.A (getItem v (.ref sl)) (EP X pins σ Q) X.xe s
theorem SlR.or {r r':V -> Option Int -> Option Int -> Hp -> VK -> Prop} (h:SlR X r) (h':SlR X r'):SlR X (fun x lo hi H Q => r x lo hi H Q ∨ r' x lo hi H Q):=by
  intro pins s σ H x v vl vu lo hi sl Q I rx hs pl pu q
  rcases q with q | q
  . exact h pins s σ H x v vl vu lo hi sl Q I rx hs pl pu q
  . exact h' pins s σ H x v vl vu lo hi sl Q I rx hs pl pu q
noncomputable def tSl (r:V -> Option Int -> Option Int -> Hp -> VK -> Prop) (te:TE) (tl th:TO):TE:=fun σ H Q => te σ H fun x H1 => tl σ H1 fun l H2 => th σ H2 fun u H3 => r x l u H3 Q
theorem pe_slice {r:V -> Option Int -> Option Int -> Hp -> VK -> Prop} (hr:SlR X r) (he:PE X e te) (hl:PO X lo tl) (hu:PO X hi th):PE X (.Subscript e (.Slice lo hi none p2) pos) (tSl r te tl th):=by
  intro pins s σ H Q I h
  refine Subscript_ (thn (he pins s σ H _ I h) fun v s1 ⟨x,H1,I1,r1,q1⟩ => ?_)
  refine wpAny_Slice (thn (hl pins s1 σ H1 _ I1 q1) fun vl s2 ⟨l,H2,I2,pl,q2⟩ => thn (hu pins s2 σ H2 _ I2 q2) fun vu s3 ⟨u,H3,I3,pu,q3⟩ => ?_)
  rw [evalPart_none]
  refine wpAny_pure ?_
  have I4:Inv X pins σ H3 { s3 with heap:=s3.heap.push { cls:=.type "slice",data:=.fields #[vl,vu,.none] } }:=I3.kept (t':=s3.toks) fun b ob q => Heap.get?_push_of_some _ q
  obtain ⟨T,id,hT,ht,hg⟩:=hr pins { s3 with heap:=s3.heap.push { cls:=.type "slice",data:=.fields #[vl,vu,.none] } } σ H3 x v vl vu l u s3.heap.objs.size Q I4 r1 (Heap.IsSliceOf.new ..) pl pu q3
  show wpAny (model X.prog X.w) X.A (subscriptTail e (.Slice lo hi none p2) v (.ref s3.heap.objs.size)) (EP X pins σ Q) X.xe { s3 with heap:=s3.heap.push { cls:=.type "slice",data:=.fields #[vl,vu,.none] } }
  exact tail_any (ops:=[.ref s3.heap.objs.size,v]) ht hT hg (by with_unfolding_all rfl)
noncomputable def cutV (xs:List V) (lo hi:Option Int):List V:=(xs.drop (HT.sIx xs.length 0 lo)).take (HT.sIx xs.length xs.length hi - HT.sIx xs.length 0 lo)
theorem cutV_length (xs:List V) (lo hi:Option Int):(cutV xs lo hi).length <= xs.length:=by
  unfold cutV
  rw [List.length_take,List.length_drop]
  omega
noncomputable def rSlT (K:PySem.W.Frag):V -> Option Int -> Option Int -> Hp -> VK -> Prop:=fun x lo hi H Q => ∃ a xs,x = .ref a /\ SqT K H a xs /\
  ¬ (HT.sIx xs.length 0 lo = 0 /\ HT.sIx xs.length xs.length hi = xs.length) /\ ∀ p,H p = none -> Q (.ref p) (upd H p (.tup (cutV xs lo hi)))
theorem sl_tup:SlR X (rSlT X.K):=by
  intro pins s σ H x v vl vu lo hi sl Q I rx hs pl pu h
  obtain ⟨a,xs,rfl,hx,hw,q⟩:=h
  cases rx
  obtain ⟨its,r,ht,hz⟩:=I.tuple hx
  have hlen:its.toArray.size = xs.length:=by rw [List.size_toArray]; exact r.length.symm
  refine ⟨"tuple",_,PyProof.Rows.slot_tuple_getitem.lookup,ht.typeIs,?_⟩
  refine HT.getItem_tuple_cut ht hs pl pu (by rw [hlen]; exact hw) ?_ (by rw [hlen]; exact hz)
  rw [hlen]
  refine ⟨.ref s.heap.objs.size,_,I.laid (t':=s.toks) (o:=.tup (cutV xs lo hi)) (fun b ob q => Heap.get?_push_of_some _ q) (Nat.le_refl _) ?_,rfl,q _ (I.hok.fresh (Nat.le_refl _))⟩
  exact ⟨⟨Nat.le_trans (cutV_length xs lo hi) hz,_,Heap.get?_push_size _ rfl,rfl⟩,_,(r.drop (HT.sIx xs.length 0 lo)).take (HT.sIx xs.length xs.length hi - HT.sIx xs.length 0 lo),IsTup.new _ _⟩
noncomputable def rCatT (K:PySem.W.Frag):R2:=fun x y H Q => ∃ a b xs ys,x = .ref a /\ y = .ref b /\ SqT K H a xs /\ SqT K H b ys /\ xs ≠ [] /\ xs.length + ys.length <= sizeLine /\
  (ys = [] -> Q (.ref a) H) /\ (ys ≠ [] -> ∀ p,H p = none -> Q (.ref p) (upd H p (.tup (xs ++ ys))))
theorem Vals.nil_iff {xs:List V} {us:List Value} (r:Vals xs us):us = [] ↔ xs = []:=by
  cases r with
  | nil => simp
  | cons _ _ => simp
theorem op_catT:OpR X (binaryOp .Add) (rCatT X.K):=by
  intro pins s σ H x y v u Q I rx ry h
  obtain ⟨a,b,xs,ys,rfl,rfl,ha,hb,hx,hz,q1,q2⟩:=h
  cases rx
  cases ry
  obtain ⟨its,r1,p1,_⟩:=I.tuple ha
  obtain ⟨its2,r2,p2,_⟩:=I.tuple hb
  refine HT.cat_tup p1 p2 (fun z => hx (r1.nil_iff.mp z)) (fun z => ⟨.ref a,H,I,rfl,q1 (r2.nil_iff.mp z)⟩) (fun z => ?_) (by rw [← r1.length,← r2.length]; exact hz)
  refine ⟨.ref s.heap.objs.size,_,I.laid (t':=s.toks) (o:=.tup (xs ++ ys)) (fun b ob q => Heap.get?_push_of_some _ q) (Nat.le_refl _) ?_,rfl,q2 (fun w => z (r2.nil_iff.mpr w)) _ (I.hok.fresh (Nat.le_refl _))⟩
  exact ⟨⟨by rw [List.length_append]; exact hz,_,Heap.get?_push_size _ rfl,rfl⟩,_,r1.append r2,IsTup.new _ _⟩
end
end L2
namespace L2
open PySem PySem.Spec PyProof.Rows
noncomputable def ixN (n:Nat) (i:Int):Option Nat:=if 0 <= i then (if i < n then some i.toNat else none) else if -(n:Int) <= i then some (i + n).toNat else none
noncomputable def atI {α:Type} (xs:List α) (i:Int):Option α:=(ixN xs.length i).bind fun j => xs[j]?
theorem ixN_seq {n:Nat} {i:Int} {j:Nat} (h:ixN n i = some j):seqIndex? i n = some j /\ j < n /\ -(n:Int) <= i /\ i < n:=by
  unfold ixN at h
  by_cases h0:0 <= i
  . rw [if_pos h0] at h
    by_cases h1:i < n
    . rw [if_pos h1] at h
      have e:i.toNat = j:=Option.some.inj h
      exact ⟨by rw [seqIndex_of h0 h1,e],by omega,by omega,h1⟩
    . rw [if_neg h1] at h; cases h
  . rw [if_neg h0] at h
    by_cases h1:-(n:Int) <= i
    . rw [if_pos h1] at h
      have e:(i + n).toNat = j:=Option.some.inj h
      exact ⟨by rw [seqIndex_neg (by omega) h1,e],by omega,h1,by omega⟩
    . rw [if_neg h1] at h; cases h
theorem atI_get {α:Type} {xs:List α} {i:Int} {v:α} (h:atI xs i = some v):∃ j,seqIndex? i xs.length = some j /\ xs[j]? = some v /\ j < xs.length /\ -(xs.length:Int) <= i /\ i < xs.length:=by
  unfold atI at h
  cases e:ixN xs.length i with
  | none => rw [e] at h; cases h
  | some j =>
    rw [e] at h
    obtain ⟨h1,h2,h3,h4⟩:=ixN_seq e
    exact ⟨j,h1,h,h2,h3,h4⟩
theorem atI_nat {α:Type} {xs:List α} {j:Nat} {v:α} (h:xs[j]? = some v):atI xs (j:Int) = some v:=by
  have hj:j < xs.length:=(List.getElem?_eq_some_iff.mp h).1
  have e:ixN xs.length (j:Int) = some j:=by
    unfold ixN
    rw [if_pos (by omega),if_pos (by omega)]; simp
  unfold atI; rw [e]; exact h
noncomputable def PlainIx (b:Expr):Prop:=∀ o i,subscripted b false o i = operate [o,i] (getItem o i)
noncomputable def IxR (X:Cx) (r:R2):Prop :=
  ∀ (value slice:Expr) (pins:List (Addr×Obj)) (s:Shared) (σ:St) (H:Hp) (x y:V) (v u:Value) (Q:VK),Inv X pins σ H s -> RelV x v -> RelV y u -> r x y H Q ->
    subscripted slice false v u = operate [v,u] (getItem v u) -> wpAny (model X.prog X.w) X.A (subscriptTail value slice v u) (EP X pins σ Q) X.xe s
noncomputable def MtR (X:Cx) (id:String) (r:V -> List V -> Hp -> VK -> Prop):Prop :=
  ∀ (pins:List (Addr×Obj)) (s:Shared) (σ:St) (H:Hp) (x:V) (xs:List V) (v:Value) (us:List Value) (Q:VK),Inv X pins σ H s -> RelV x v -> Vals xs us -> r x xs H Q ->
    wpAny (model X.prog X.w) X.A (call (.builtin id) (v :: us)) (EP X pins σ Q) X.xe s
section
variable {X:Cx} {a b:Expr} {ta tb:TE} {pos:Pos}
theorem IxR.or {r r':R2} (h:IxR X r) (h':IxR X r'):IxR X (fun x y H Q => r x y H Q ∨ r' x y H Q):=by
  intro value slice pins s σ H x y v u Q I rx ry q hs
  rcases q with q | q
  . exact h value slice pins s σ H x y v u Q I rx ry q hs
  . exact h' value slice pins s σ H x y v u Q I rx ry q hs
theorem pe_ix {r:R2} (hr:IxR X r) (ha:PE X a ta) (hb:PE X b tb) (hs:PlainIx b):PE X (.Subscript a b pos) (tOp r ta tb):=by
  intro pins s σ H Q I h
  exact Subscript_ (binT ha hb I h fun v u s2 x y H2 I2 rx ry q => hr a b pins s2 σ H2 x y v u Q I2 rx ry q (hs _ _))
noncomputable def rIxL (K:PySem.W.Frag):R2:=fun x y H Q => ∃ p xs i v,x = .ref p /\ y = .int i /\ SqL K H p xs /\ atI xs i = some v /\ Q v H
noncomputable def rIxT (K:PySem.W.Frag):R2:=fun x y H Q => ∃ p xs i v,x = .ref p /\ y = .int i /\ SqT K H p xs /\ atI xs i = some v /\ Q v H
noncomputable def rIxS:R2:=fun x y H Q => ∃ z i c,x = .str z /\ y = .int i /\ z.length <= sizeLine /\ atI z.cps.toList i = some c /\ Q (.str ⟨#[c]⟩) H
theorem ix_list:IxR X (rIxL X.K):=by
  intro value slice pins s σ H x y v u Q I rx ry h hs
  obtain ⟨p,xs,i,z,rfl,rfl,hq,he,q⟩:=h
  cases rx
  obtain ⟨t,rfl⟩:=ry
  obtain ⟨its,r,pl,hz⟩:=I.list hq
  obtain ⟨j,h1,h2,h3,h4,h5⟩:=atI_get he
  obtain ⟨w,ew,rw'⟩:=r.get h2
  have hl:=r.length
  have hn:=line63
  have fin:EP X pins σ Q w s:=⟨z,H,I,rw',q⟩
  by_cases h0:0 <= i
  . have hj:i.toNat = j:=by
      rw [seqIndex_of h0 h5] at h1
      exact Option.some.inj h1
    exact item_listR pl.isList h0 (by omega) (by rw [hj]; simpa using ew) fin hs
  . have hj:(i + (its.toArray.size:Int)).toNat = j:=by
      rw [seqIndex_neg (by omega) h4] at h1
      rw [List.size_toArray,← hl]
      exact Option.some.inj h1
    exact subscriptTail_builtinR (x:=w) pl.isList.typeIs slot_list_getitem.lookup
      (wpAny_getItem_list_neg (Q:=fun r s' => r = w /\ EP X pins σ Q r s') pl.isList (by omega) (by rw [List.size_toArray] <;> omega) (by omega) (by rw [hj]; simpa using ew) ⟨rfl,fin⟩) hs
theorem ix_tup:IxR X (rIxT X.K):=by
  intro value slice pins s σ H x y v u Q I rx ry h hs
  obtain ⟨p,xs,i,z,rfl,rfl,hq,he,q⟩:=h
  cases rx
  obtain ⟨t,rfl⟩:=ry
  obtain ⟨its,r,pl,hz⟩:=I.tuple hq
  obtain ⟨j,h1,h2,h3,h4,h5⟩:=atI_get he
  obtain ⟨w,ew,rw'⟩:=r.get h2
  have hl:=r.length
  have hn:=line63
  have fin:EP X pins σ Q w s:=⟨z,H,I,rw',q⟩
  exact subscriptTail_builtinR (x:=w) pl.typeIs slot_tuple_getitem.lookup
    (getItem_tuple (j:=j) (Q:=fun r s' => r = w /\ EP X pins σ Q r s') pl (by omega) (by omega) (by rw [List.size_toArray,← hl]; exact h1) (by simpa using ew) ⟨rfl,fin⟩) hs
theorem ix_str:IxR X rIxS:=by
  intro value slice pins s σ H x y v u Q I rx ry h hs
  obtain ⟨z,i,c,rfl,rfl,hz,he,q⟩:=h
  obtain ⟨t,rfl⟩:=rx
  obtain ⟨t',rfl⟩:=ry
  obtain ⟨j,h1,h2,h3,h4,h5⟩:=atI_get he
  have hl:z.cps.toList.length = z.length:=by simp [Str.length]
  rw [hl] at h1 h4 h5
  have hn:=line63
  exact tail_any (typeIs_str s z t) slot_str_getitem.lookup (getItem_str (c:=c) (by
    have e1:decide (i < -(2 ^ 63:Int)) = false:=decide_eq_false (by omega)
    have e2:decide (i ≥ 2 ^ 63) = false:=decide_eq_false (by omega)
    rw [e1,e2,Bool.or_false]) (by rw [h1]; simpa using h2) ⟨.str ⟨#[c]⟩,H,I.tok _,⟨_,rfl⟩,q⟩) hs
noncomputable def rIx (K:PySem.W.Frag):R2:=fun x y H Q => rIxL K x y H Q ∨ rIxT K x y H Q ∨ rIxS x y H Q
theorem ix_seq:IxR X (rIx X.K):=ix_list.or (ix_tup.or ix_str)
theorem slice_bounds (lo hi:Option Int) (n:Nat):(sliceBounds lo hi none n).1 = ((HT.sIx n 0 lo:Nat):Int) /\ (sliceBounds lo hi none n).2.1 = ((HT.sIx n n hi:Nat):Int) /\ (sliceBounds lo hi none n).2.2 = 1:=by
  refine ⟨?_,?_,rfl⟩
  . cases lo with
    | none => simp [sliceBounds,HT.sIx]
    | some i =>
      simp only [sliceBounds,HT.sIx,Option.getD_none,show (1:Int) > 0 by decide,if_true]
      by_cases h:i < 0
      . simp only [h,if_true] <;> omega
      . simp only [h,if_false] <;> omega
  . cases hi with
    | none => simp [sliceBounds,HT.sIx]
    | some i =>
      simp only [sliceBounds,HT.sIx,Option.getD_none,show (1:Int) > 0 by decide,if_true]
      by_cases h:i < 0
      . simp only [h,if_true] <;> omega
      . simp only [h,if_false] <;> omega
theorem slicePick_cut (its:List Value) (lo hi:Option Int):slicePick its.toArray lo hi none = ((its.drop (HT.sIx its.length 0 lo)).take (HT.sIx its.length its.length hi - HT.sIx its.length 0 lo)).toArray:=by
  obtain ⟨h1,h2,h3⟩:=slice_bounds lo hi its.toArray.size
  unfold slicePick
  rw [h1,h2,h3]
  simp only [sliceRange_one,pick_run,List.size_toArray] <;> rfl
noncomputable def rSlL (K:PySem.W.Frag):V -> Option Int -> Option Int -> Hp -> VK -> Prop:=fun x lo hi H Q => ∃ a xs,x = .ref a /\ SqL K H a xs /\ ∀ p,H p = none -> Q (.ref p) (upd H p (.lst (cutV xs lo hi)))
theorem sl_list:SlR X (rSlL X.K):=by
  intro pins s σ H x v vl vu lo hi sl Q I rx hs pl pu h
  obtain ⟨a,xs,rfl,hx,q⟩:=h
  cases rx
  obtain ⟨its,r,ht,hz⟩:=I.list hx
  have hlen:=r.length
  refine ⟨"list",_,slot_list_getitem.lookup,ht.isList.typeIs,?_⟩
  refine wpAny_getItem_list_slice ht.isList hs pl pu .none (by simp) ?_ (by rw [List.size_toArray] <;> omega)
  rw [slicePick_cut,← hlen]
  refine ⟨.ref s.heap.objs.size,_,I.laid (t':=s.toks) (o:=.lst (cutV xs lo hi)) (fun b ob q => Heap.get?_push_of_some _ q) (Nat.le_refl _) ?_,rfl,q _ (I.hok.fresh (Nat.le_refl _))⟩
  exact ⟨Nat.le_trans (cutV_length xs lo hi) hz,_,0,(r.drop (HT.sIx xs.length 0 lo)).take (HT.sIx xs.length xs.length hi - HT.sIx xs.length 0 lo),Heap.get?_push_size _ rfl⟩
noncomputable def flatV:V -> Bool
  | .non => true
  | .bl _ => true
  | .int _ => true
  | .str _ => true
  | _ => false
noncomputable def eqV:V -> V -> Bool
  | .non,.non => true
  | .bl a,.bl b => a == b
  | .bl a,.int b => (if a then 1 else 0) == b
  | .int a,.bl b => a == (if b then 1 else 0)
  | .int a,.int b => a == b
  | .str a,.str b => a == b
  | _,_ => false
theorem eqAt_V {A:Around} {s:Shared} {y x:V} {u v:Value} (ry:RelV y u) (rx:RelV x v) (fy:flatV y = true) (fx:flatV x = true):SeqAt.EqAt A s u v (eqV y x):=by
  cases y with
  | non =>
    cases ry
    cases x with
    | non => cases rx; exact SeqAt.EqAt.same _
    | bl b => cases rx; exact SeqAt.EqAt.none_bool b
    | int b => obtain ⟨t,rfl⟩:=rx; exact SeqAt.EqAt.none_int b t
    | str b => obtain ⟨t,rfl⟩:=rx; exact SeqAt.EqAt.none_str b t
    | _ => exact absurd (show false = true from fx) Bool.false_ne_true
  | bl a =>
    cases ry
    cases x with
    | non => cases rx; exact SeqAt.EqAt.bool_none a
    | bl b => cases rx; exact SeqAt.EqAt.bool_bool a b
    | int b => obtain ⟨t,rfl⟩:=rx; exact SeqAt.EqAt.bool_int a b t
    | str b => obtain ⟨t,rfl⟩:=rx; exact SeqAt.EqAt.bool_str a b t
    | _ => exact absurd (show false = true from fx) Bool.false_ne_true
  | int a =>
    obtain ⟨t',rfl⟩:=ry
    cases x with
    | non => cases rx; exact SeqAt.EqAt.int_none a t'
    | bl b => cases rx; exact SeqAt.EqAt.int_bool a t' b
    | int b => obtain ⟨t,rfl⟩:=rx; exact SeqAt.EqAt.int_int a t' b t
    | str b => obtain ⟨t,rfl⟩:=rx; exact SeqAt.EqAt.int_str a t' b t
    | _ => exact absurd (show false = true from fx) Bool.false_ne_true
  | str a =>
    obtain ⟨t',rfl⟩:=ry
    cases x with
    | non => cases rx; exact SeqAt.EqAt.str_none a t'
    | bl b => cases rx; exact SeqAt.EqAt.str_bool a t' b
    | int b => obtain ⟨t,rfl⟩:=rx; exact SeqAt.EqAt.str_int a t' b t
    | str b => obtain ⟨t,rfl⟩:=rx; exact SeqAt.EqAt.str_str a t' b t
    | _ => exact absurd (show false = true from fx) Bool.false_ne_true
  | _ => exact absurd (show false = true from fy) Bool.false_ne_true
noncomputable def eqU (x:V) (u:Value):Bool:=match u with
  | .none => eqV .non x
  | .bool b => eqV (.bl b) x
  | .int i _ => eqV (.int i) x
  | .str z _ => eqV (.str z) x
  | _ => false
theorem eqU_of {x y:V} {u:Value} (r:RelV y u) (f:flatV y = true):eqU x u = eqV y x:=by
  cases y with
  | non => cases r; rfl
  | bl b => cases r; rfl
  | int i => obtain ⟨t,rfl⟩:=r; rfl
  | str z => obtain ⟨t,rfl⟩:=r; rfl
  | _ => exact absurd (show false = true from f) Bool.false_ne_true
theorem any_eqU {x:V}:∀ {xs:List V} {us:List Value},Vals xs us -> xs.all flatV = true -> us.any (eqU x) = xs.any fun y => eqV y x
  | _,_,.nil,_ => rfl
  | y :: xs,u :: us,.cons r t,f => by
    rw [List.all_cons,Bool.and_eq_true] at f
    rw [List.any_cons,List.any_cons,eqU_of r f.1,any_eqU t f.2]
theorem mem_eqAt {A:Around} {s:Shared} {x:V} {v:Value} (rx:RelV x v) (fx:flatV x = true):∀ {xs:List V} {us:List Value},Vals xs us -> xs.all flatV = true -> ∀ u ∈ us,SeqAt.EqAt A s u v (eqU x u)
  | _,_,.nil,_ => fun u hu => by cases hu
  | y :: xs,u :: us,.cons r t,f => fun u' hu => by
    rw [List.all_cons,Bool.and_eq_true] at f
    rcases List.mem_cons.mp hu with rfl | hu
    . rw [eqU_of r f.1]; exact eqAt_V r rx f.1 fx
    . exact mem_eqAt rx fx t f.2 u' hu
noncomputable def inV (x:V) (xs:List V):Bool:=xs.any fun y => eqV y x
noncomputable def rIn (K:PySem.W.Frag) (neg:Bool):R2:=fun x y H Q => ∃ p xs,y = .ref p /\ (SqL K H p xs ∨ SqT K H p xs) /\ flatV x = true /\ xs.all flatV = true /\ Q (.bl (if neg then !inV x xs else inV x xs)) H
theorem op_in_seq:OpR X (compareOp .In) (rIn X.K false):=by
  intro pins s σ H x y v u Q I rx ry h
  obtain ⟨p,xs,rfl,hq,fx,fs,q⟩:=h
  cases ry
  rcases hq with hq | hq
  . obtain ⟨its,r,pl,hz⟩:=I.list hq
    refine SeqAt.in_listAt (eqU x) pl.isList (fun w hw => mem_eqAt rx fx r fs w (by simpa using hw)) ⟨.bl _,H,I,rfl,?_⟩
    rw [show its.toArray.any (eqU x) = its.any (eqU x) by simp,any_eqU r fs]
    exact q
  . obtain ⟨its,r,pl,hz⟩:=I.tuple hq
    refine SeqAt.in_tupleAt (eqU x) pl (fun w hw => mem_eqAt rx fx r fs w (by simpa using hw)) ⟨.bl _,H,I,rfl,?_⟩
    rw [show its.toArray.any (eqU x) = its.any (eqU x) by simp,any_eqU r fs]
    exact q
theorem op_notIn_seq:OpR X (compareOp .NotIn) (rIn X.K true):=by
  intro pins s σ H x y v u Q I rx ry h
  obtain ⟨p,xs,rfl,hq,fx,fs,q⟩:=h
  cases ry
  rcases hq with hq | hq
  . obtain ⟨its,r,pl,hz⟩:=I.list hq
    refine SeqAt.notIn_listAt (eqU x) pl.isList (fun w hw => mem_eqAt rx fx r fs w (by simpa using hw)) ⟨.bl _,H,I,rfl,?_⟩
    rw [show its.toArray.any (eqU x) = its.any (eqU x) by simp,any_eqU r fs]
    exact q
  . obtain ⟨its,r,pl,hz⟩:=I.tuple hq
    refine SeqAt.notIn_tupleAt (eqU x) pl (fun w hw => mem_eqAt rx fx r fs w (by simpa using hw)) ⟨.bl _,H,I,rfl,?_⟩
    rw [show its.toArray.any (eqU x) = its.any (eqU x) by simp,any_eqU r fs]
    exact q
theorem call_list_of:CallR X (.type "list") (fun xs H Q => ∃ p ys,xs = [.ref p] /\ (SqL X.K H p ys ∨ SqT X.K H p ys) /\ ∀ l,H l = none -> Q (.ref l) (upd H l (.lst ys))):=by
  intro pins s σ H xs us Q I r h
  obtain ⟨p,ys,rfl,hq,q⟩:=h
  obtain ⟨u,rfl,rx⟩:=vals1 r
  cases rx
  have fin:∀ (its:List Value),Vals ys its -> ys.length <= sizeLine -> ∀ (h':Heap) (c':Nat),(∀ b o',s.heap.get? b = some o' -> h'.get? b = some o') ->
      h'.get? s.heap.objs.size = some { cls:=.type "list",dict:=none,data:=.seq its.toArray c',slots:=#[] } -> EP X pins σ Q (.ref s.heap.objs.size) { s with heap:=h' }:=fun its r' hz h' c' kp e =>
    ⟨.ref s.heap.objs.size,_,I.laid (t':=s.toks) kp (Nat.le_refl _) (show ObjOk X.prog X.w _ h' _ (.lst ys) from ⟨hz,its,c',r',e⟩),rfl,q _ (I.hok.fresh (Nat.le_refl _))⟩
  rcases hq with hq | hq
  . obtain ⟨its,r',pl,hz⟩:=I.list hq
    have hlen:=r'.length
    obtain ⟨o,ho,hc,n,hd⟩:=pl.isList
    exact call_list_seq p (.inl rfl) ho hc hd (fun h' c' kp e => fin its r' hz h' c' kp e) (by simp only [List.size_toArray] <;> omega)
  . obtain ⟨its,r',pl,hz⟩:=I.tuple hq
    have hlen:=r'.length
    obtain ⟨o,ho,hc,n,hd⟩:=pl
    exact call_list_seq p (.inr rfl) ho hc hd (fun h' c' kp e => fin its r' hz h' c' kp e) (by simp only [List.size_toArray] <;> omega)
theorem call_tuple_of:CallR X (.type "tuple") (fun xs H Q => ∃ p ys,xs = [.ref p] /\ ((SqL X.K H p ys /\ ∀ l,H l = none -> Q (.ref l) (upd H l (.tup ys))) ∨ (SqT X.K H p ys /\ Q (.ref p) H))):=by
  intro pins s σ H xs us Q I r h
  obtain ⟨p,ys,rfl,h⟩:=h
  obtain ⟨u,rfl,rx⟩:=vals1 r
  cases rx
  rcases h with ⟨hq,q⟩ | ⟨hq,q⟩
  . obtain ⟨its,r',pl,hz⟩:=I.list hq
    have hlen:=r'.length
    refine call_tuple_list pl.isList (fun h' kp => ?_) (by simp only [List.size_toArray] <;> omega)
    have I1:Inv X pins σ H { s with heap:=h' }:=I.kept (t':=s.toks) kp
    have I2:Inv X pins σ (upd H h'.objs.size (.tup ys)) { s with heap:=h'.push { cls:=.type "tuple",data:=.seq its.toArray } } :=
      I1.laid (t':=s.toks) (fun b o e => Heap.get?_push_of_some _ e) (Nat.le_refl _) (show ObjOk X.prog X.w _ _ _ (.tup ys) from ⟨⟨hz,_,Heap.get?_push_size _ rfl,rfl⟩,its,r',IsTup.new _ _⟩)
    exact ⟨.ref h'.objs.size,_,I2,rfl,q _ (I1.hok.fresh (Nat.le_refl _))⟩
  . obtain ⟨its,r',pl,hz⟩:=I.tuple hq
    exact call_tuple_same pl ⟨.ref p,H,I,rfl,q⟩
noncomputable def tyV (K:PySem.W.Frag) (T:String) (x:V) (H:Hp):Prop:=match x with
  | .str _ => T = "str"
  | .int _ => T = "int"
  | .ref p => (T = "list" /\ ∃ xs,SqL K H p xs) ∨ (T = "tuple" /\ ∃ o,K.lookup p = some o /\ o.cls = .type "tuple" /\ o.dict = none) ∨
      (T = "dict" /\ ((∃ kvs,H p = some (.dK kvs)) ∨ ∃ kvs,H p = some (.dT kvs))) ∨ (T = "set" /\ ∃ S n,H p = some (.set S n))
  | _ => False
theorem tyV_is {pins:List (Addr×Obj)} {σ:St} {H:Hp} {s:Shared} {T:String} {x:V} {v:Value} (I:Inv X pins σ H s) (r:RelV x v) (ty:tyV X.K T x H) :
    s.TypeIs v T /\ ∀ a,v = .ref a -> ∃ ob,s.heap.get? a = some ob /\ ob.dict = none:=by
  cases x with
  | str z =>
    obtain ⟨t,rfl⟩:=r
    cases (show T = "str" from ty)
    exact ⟨typeIs_str s z t,fun _ e => nomatch e⟩
  | int i =>
    obtain ⟨t,rfl⟩:=r
    cases (show T = "int" from ty)
    exact ⟨typeIs_int s i t,fun _ e => nomatch e⟩
  | ref p =>
    cases r
    rcases ty with ⟨rfl,xs,hq⟩ | ⟨rfl,o,hk,hc,hd⟩ | ⟨rfl,hk⟩ | ⟨rfl,S,n,hk⟩
    . obtain ⟨its,_,pl,_⟩:=I.list hq
      refine ⟨pl.isList.typeIs,fun a e => ?_⟩
      cases e
      obtain ⟨o,n,e,c,hd,_⟩:=pl
      exact ⟨o,e,hd⟩
    . refine ⟨⟨o,I.kIn p o hk,hc⟩,fun a e => ?_⟩
      cases e
      exact ⟨o,I.kIn _ o hk,hd⟩
    . have z:∃ o,s.heap.get? p = some o /\ o.ExactDict:=by
        rcases hk with ⟨kvs,hk⟩ | ⟨kvs,hk⟩
        . obtain ⟨_,_,_,_,o,_,_,e,ex,_⟩:=I.hok p _ hk
          exact ⟨o,e,ex⟩
        . obtain ⟨_,_,_,_,o,_,_,e,ex,_⟩:=I.hok p _ hk
          exact ⟨o,e,ex⟩
      obtain ⟨o,e,ex⟩:=z
      refine ⟨⟨o,e,ex.1⟩,fun a e2 => ?_⟩
      cases e2
      exact ⟨o,e,ex.2.1⟩
    . obtain ⟨o,_,_,_,e,ex,_⟩:=I.hok p _ hk
      refine ⟨⟨o,e,ex.1⟩,fun a e2 => ?_⟩
      cases e2
      exact ⟨o,e,ex.2.1⟩
  | _ => exact False.elim ty
noncomputable def tBM (K:PySem.W.Frag) (T:String) (r:V -> List V -> Hp -> VK -> Prop) (to:TE) (t:TA):TE:=fun σ H Q => to σ H fun x H1 => tyV K T x H1 /\ t σ H1 fun xs H2 => r x xs H2 Q
variable {o e:Expr} {es:List Expr} {to:TE} {t:TA} {name:Str} {apos cpos:Pos} {T id:String} {r:V -> List V -> Hp -> VK -> Prop}
theorem pe_bm (pa:PlainAttrs T) (slot:Slot T name id) (hty:typeOf (.builtin id) = pure (.type "method_descriptor")) (hm:MtR X id r) (ho:PE X o to) (ha:PA X (e :: es) t)
    (hbase:attributeBase o name X.env (eval o X.env) = eval o X.env:=by rfl)
    (hfew:((backTo cpos (starEach (e :: es) X.env)).all (fun x => !x.1) && (backToKw cpos (keywordEach [] X.env)).all (fun x => x.1.isSome)
      && decide ((e :: es).length + ([]:List Keyword).length + (if ([]:List Keyword).isEmpty then 0 else 1) < 30)) = true:=by rfl)
    (hline:(apos.endLine == cpos.line) = true:=by rfl) (hs:starEach (e :: es) X.env = (false,eval e X.env) :: starEach es X.env:=by rfl) (hplain:(backTo cpos (starEach es X.env)).any (·.1) = false:=by rfl) :
    PE X (.Call (.Attribute o name apos) (e :: es) [] cpos) (tBM X.K T r to t):=by
  intro pins s σ H Q I h
  refine wpAny_Call_method_late hbase hfew hline rfl (thn (ho pins s σ H _ I h) fun v s1 ⟨x,H1,I1,r1,ty,q1⟩ => ?_)
  obtain ⟨h1,h2⟩:=tyV_is I1 r1 ty
  refine ⟨T,id,pa,slot,hty,h1,h2,?_⟩
  have hA:=ha cpos pins s1 σ H1 _ I1 q1
  rw [hs] at hA ⊢
  refine Calls.callWith_builtin (by show (false || (backTo cpos (starEach es X.env)).any (·.1)) = false; rw [hplain] <;> rfl) (Calls.evalArgs_plain ?_)
  exact thn hA fun us s2 ⟨vs,H2,I2,r2,q2⟩ => hm pins s2 σ H2 x vs v us Q I2 r1 r2 q2
/- xs.append(e),list.index on a module's tuple .. are MtR facts of 06m -/
end
end L2
namespace L2
open PySem PySem.Spec PyProof.Rows
noncomputable def MtM (X:Cx) (id:String) (r:V -> List V -> Hp -> VK -> Prop):Prop :=
  ∀ (pins:List (Addr×Obj)) (s:Shared) (σ:St) (H:Hp) (x:V) (xs:List V) (v:Value) (us:List Value) (Q:VK),Inv X pins σ H s -> RelV x v -> Vals xs us -> r x xs H Q ->
    wpAny (model X.prog X.w) X.A (call (.builtin id) (v :: us)) (EP X pins σ Q) X.xe s
theorem Vals.one:∀ {x:V} {us:List Value},Vals [x] us -> ∃ u,us = [u] /\ RelV x u
 :=fun h => by cases h with | cons r h => cases h; exact ⟨_,rfl,r⟩
theorem Vals.two:∀ {x y:V} {us:List Value},Vals [x,y] us -> ∃ u v,us = [u,v] /\ RelV x u /\ RelV y v
 :=fun h => by cases h with | cons r h => cases h with | cons q h => cases h; exact ⟨_,_,rfl,r,q⟩
section
variable {X:Cx} {pins:List (Addr×Obj)} {σ:St} {H:Hp} {s:Shared} {l b:Addr} {xs ys zs:List V}
theorem Inv.lset {its its':List Value} {n:Nat} {f:Array Value -> Array Value} {t':Nat} (I:Inv X pins σ H s) (hH:H l = some (.lst xs))
    (e:s.heap.get? l = some { cls:=.type "list",data:=.seq its.toArray n }) (hf:f its.toArray = its'.toArray) (hv:Vals ys its') (hz:ys.length <= sizeLine) :
    Inv X pins σ (upd H l (.lst ys)) { s with heap:=s.heap.update l (Obj.mapSeq f),toks:=t' }:=by
  have q:=PySem.IsL.update e f
  rw [hf] at q
  refine I.write (x:=l) (e:=l) (by rw [hH]; exact trivial) (.inl rfl) (fun b' u hb hu => (Heap.get?_update_other s.heap (Obj.mapSeq f) (Ne.symm hb)).trans hu) ⟨_,q⟩ ?_
  exact ⟨hz,its',_,hv,q⟩
theorem Inv.lnew {its:List Value} {t':Nat} (I:Inv X pins σ H s) (hv:Vals ys its) (hz:ys.length <= sizeLine) :
    Inv X pins σ (upd H s.heap.objs.size (.lst ys)) { s with heap:=s.heap.push { cls:=.type "list",data:=.seq its.toArray },toks:=t' } :=
  I.laid (fun _ _ q => Heap.get?_push_of_some _ q) (Nat.le_refl _) ⟨hz,its,0,hv,Heap.get?_push_size _ rfl⟩
theorem Inv.fresh (I:Inv X pins σ H s):H s.heap.objs.size = none:=I.hok.fresh (Nat.le_refl _)
theorem Inv.lstM (I:Inv X pins σ H s) (hH:H l = some (.lst xs)):xs.length <= sizeLine /\ ∃ (its:List Value) (n:Nat),Vals xs its /\ xs.length = its.length /\ s.heap.get? l = some { cls:=.type "list",data:=.seq its.toArray n }:=by
  obtain ⟨z,its,n,r,e⟩:=I.hok l _ hH
  exact ⟨z,its,n,r,r.length,e⟩
theorem notLongL {n:Nat} (h:n <= sizeLine):Builtin.List.listTooLong n = false:=by
  unfold Builtin.List.listTooLong
  exact decide_eq_false (by omega)
end
section
variable {X:Cx}
noncomputable def rAppend:V -> List V -> Hp -> VK -> Prop:=fun x vs H Q => ∃ l xs y,x = .ref l /\ vs = [y] /\ H l = some (.lst xs) /\ xs.length < sizeLine /\ Q .non (upd H l (.lst (xs ++ [y])))
theorem mt_append:MtM X "list.append" rAppend:=by
  intro pins s σ H x vs v us Q I rx rv h
  obtain ⟨l,xs,y,rfl,rfl,hH,hz,q⟩:=h
  cases rx
  obtain ⟨u,rfl,ru⟩:=rv.one
  obtain ⟨z,its,n,r,hl,e⟩:=I.lstM hH
  refine call_meets F.slot_list_append ⟨_,e,rfl⟩ F.entry_list_append (F.args_list_append_2 _ _) (PySem.list_append l its.toArray n u (by rw [List.size_toArray]; omega)) ⟨e,?_⟩
  refine ⟨.non,_,I.lset (its':=its ++ [u]) hH e (by simp) (r.append (.cons ru .nil)) ?_,rfl,q⟩
  rw [List.length_append,List.length_singleton]
  omega
noncomputable def rExtend:V -> List V -> Hp -> VK -> Prop:=fun x vs H Q => ∃ l b xs zs,x = .ref l /\ vs = [.ref b] /\ H l = some (.lst xs) /\ H b = some (.lst zs) /\ xs.length + zs.length <= sizeLine /\ Q .non (upd H l (.lst (xs ++ zs)))
theorem mt_extend:MtM X "list.extend" rExtend:=by
  intro pins s σ H x vs v us Q I rx rv h
  obtain ⟨l,b,xs,zs,rfl,rfl,hH,hB,hz,q⟩:=h
  cases rx
  obtain ⟨u,rfl,ru⟩:=rv.one
  cases ru
  obtain ⟨z,its,n,r,hl,e⟩:=I.lstM hH
  obtain ⟨z2,its2,n2,r2,hl2,e2⟩:=I.lstM hB
  have hsz:its.toArray.size + its2.toArray.size <= sizeLine:=by rw [List.size_toArray,List.size_toArray]; omega
  have hlong:¬ (!its.toArray.isEmpty && Builtin.List.listTooLong (its.toArray.size + its2.toArray.size)) = true:=by
    rw [notLongL hsz,Bool.and_false]
    exact Bool.false_ne_true
  refine call_meets F.slot_list_extend ⟨_,e,rfl⟩ F.entry_list_extend (F.args_list_extend_2 _ _)
    (AutoSeq1.list_extend_list_list_0 l its.toArray n b its2.toArray n2 hlong (by rw [List.size_toArray]; omega) (by omega)) ⟨e,e2,?_⟩
  refine ⟨.non,_,I.lset (its':=its ++ its2) hH e (by simp) (r.append r2) ?_,rfl,q⟩
  rw [List.length_append]
  omega
noncomputable def rCat:R2:=fun x y H Q => ∃ l b xs zs,x = .ref l /\ y = .ref b /\ H l = some (.lst xs) /\ H b = some (.lst zs) /\ xs.length + zs.length <= sizeLine /\ ∀ p,H p = none -> Q (.ref p) (upd H p (.lst (xs ++ zs)))
theorem op_cat:OpR X (binaryOp .Add) rCat:=by
  intro pins s σ H x y v u Q I rx ry h
  obtain ⟨l,b,xs,zs,rfl,rfl,hH,hB,hz,q⟩:=h
  cases rx
  cases ry
  obtain ⟨z,its,n,r,hl,e⟩:=I.lstM hH
  obtain ⟨z2,its2,n2,r2,hl2,e2⟩:=I.lstM hB
  refine PySem.P.add_list e e2 ?_ (by rw [List.size_toArray,List.size_toArray]; omega)
  have ea:its.toArray ++ its2.toArray = (its ++ its2).toArray:=by simp
  rw [ea]
  exact ⟨.ref _,_,I.lnew (t':=s.toks) (r.append r2) (by rw [List.length_append]; omega),rfl,q _ I.fresh⟩
end
section
variable {prog:Program} {w:World} {A:Around} {E:Value -> Shared -> Prop} {s:Shared}
end
section
variable {X:Cx}
end
end L2
namespace Att
open PySem PySem.W PySem.Calls PyProof.Rows
theorem ints_of_wellAll {P:Params} {h:Heap}:∀ (ns:List Int) (vs:List Value),WellAll P h vs (ns.map WData.int) -> IntsAre vs ns:=by
  intro ns
  induction ns with
  | nil =>
    intro vs w
    rw [List.map_nil] at w
    cases w
    exact .nil
  | cons n ns ih =>
    intro vs w
    rw [List.map_cons] at w
    cases w with
    | cons a b =>
      cases a
      exact .cons _ _ (ih _ b)
theorem script_of {l:OpenLaw} {n:Nat} (hn:l.most = some n) {P:Params} {h:Heap} {args:List WData} {vals:List Value}
    (hpre:l.row.toRowW.claim.pre args = true) (hwl:WellAll P h vals args) :
    ∃ a vs ns,vals = [Value.ref a] /\ args = [WData.list (ns.map WData.int)] /\ h.get? a = some { cls:=.type "list",data:=.seq vs.toArray } /\ IntsAre vs ns /\ ns.length <= n:=by
  have hsh:WShape.hasAll [] args [.list .int] = true:=(pre_splitW hpre).1
  have hc:l.pre.holds [] { args:=args } = true:=(pre_splitW hpre).2
  obtain ⟨d,r,rfl,h1,h2⟩:=hasAllW_cons hsh
  obtain rfl:=hasAllW_nil h2
  obtain ⟨xs,rfl,h3⟩:=hasW_list h1
  obtain ⟨ns,rfl⟩:=items_int h3
  have hlen:ns.length <= n:=by
    unfold OpenLaw.pre at hc
    have h4:(WTm.not (.lt (.lit (.int (n:Int))) (.len (.arg 0)))).holds [] { args:=[.list (ns.map .int)] } = true:=by
      have h4:=(holds_andW hc).1
      rw [hn] at h4
      exact h4
    have h5:=condW_of h4 (w_not (w_lt w_lit (w_len_list (w_arg rfl))))
    rw [List.length_map] at h5
    refine Nat.le_of_not_lt fun q => ?_
    have q':(n:Int) < ((ns.length:Nat):Int):=by omega
    first
      | (rw [decide_eq_true q'] at h5; exact absurd h5 (by decide))
      | (simp at h5; omega)
  cases hwl with
  | cons w1 w2 =>
    cases w2
    cases w1 with
    | list ho hall => exact ⟨_,_,ns,rfl,rfl,ho,ints_of_wellAll ns _ hall,hlen⟩
theorem post_true (l:OpenLaw) (args:List WData):l.row.toRowW.claim.post args (.bool true) args = true :=
  postW_of (r:=l.row.toRowW) (X:=(true == true))
    (show WShape.has [] (.bool true) .bool = true by first | rfl | decide | simp [WShape.has,WShape.arms,WShape.armsAll])
    (show (WTm.eq .res (.lit (.bool true))).value [] { args:=args,res:=some (.bool true),after:=args } = some (.bool (true == true)) from w_eq_bool (w_res rfl) w_lit) rfl
theorem attach_call {l:OpenLaw} {n:Nat} {q:Program} {loose:List Str} {XP:(Str -> Option Value) -> Heap -> Prop} {YP:World -> Heap -> Prop} {d:DefRec}
    (hn:l.most = some n) (hdf:d.params.defaults = [])
    (call:∀ (w:World) (s₀ s₁:Shared) (mg mb:Str -> Option Value) (fa:Addr) (o:Obj) (pm cd doc:Value) (a:Addr) (vs:List Value) (ns:List Int),
      Ground q loose [] XP w s₀ mg mb s₁.heap -> YP w s₁.heap ->
      s₁.heap.get? fa = some o -> o.data = .func (docDef d.name d.params d.body d.scope pm cd doc) -> s₁.heap.CodeRec cd d.name -> mg d.name = some (.ref fa) ->
      s₁.heap.get? a = some { cls:=.type "list",data:=.seq vs.toArray } -> IntsAre vs ns -> ns.length <= n -> s₁.gens = #[] ->
      codeAny (model l.prog w) callerA (.call (.ref fa) ⟨[.ref a],[]⟩) (fun r s' => r = .ok (.ret (.bool true)) /\ OldK s₁.heap s'.heap /\ s'.os = s₁.os /\ AllBare s'.gens) s₁) :
    WalkO q loose XP YP l.row.toRowW d [] (fun f vs => PySem.call f vs):=by
  intro w s₀ s₁ mg mb G Y fa o pm cd doc dV kV ho hd hcd hD hmg hg args vals as hpre hlay hrd hwl hlo
  obtain rfl:dV = .none:=Dflts.none hD hdf
  obtain rfl:kV = .none:=Dflts.noKw hD
  obtain ⟨a,vs,ns,rfl,rfl,hobj,hints,hlen⟩:=script_of hn hpre hwl
  refine enter_call (codeAny_mono (call w s₀ s₁ mg mb fa o pm cd doc a vs ns G Y ho (fd_plain hd) hcd hmg hobj hints hlen hg) fun r s' hq => ?_)
  obtain ⟨rfl,h2,h3,h4⟩:=hq
  exact ⟨.inl ⟨.bool true,.bool true,[],rfl,fun _ => rfl,.bool true,post_true l _,fun _ => ⟨List.Pairwise.nil,fun _ hm => (nomatch hm)⟩⟩,h2,h3,h4⟩
section
variable {prog:Program} {w:World} {A:Around} {E:Value -> Shared -> Prop} {s:Shared} {K:Frag}
end
end Att
namespace L2
open PySem PySem.Spec PyProof.Rows
theorem vals_ints:∀ {vs:List Value} {ns:List Int},IntsAre vs ns -> Vals (ns.map V.int) vs
  | _,_,.nil => .nil
  | _,_,.cons n t h => .cons ⟨t,rfl⟩ (vals_ints h)
noncomputable def Only (H:Hp):Prop:=∀ b,H b = none ∨ ∃ o xs,H b = some (.frz o (.lst xs))
theorem law_call {P:Program} {w:World} {K:PySem.W.Frag} {mg mb:Str -> Option Value} {CX:CXT} {k:Nat} {fa a:Addr} {fd:FuncData} {x:Str} {sp:Sp} {s₁:Shared} {vs:List Value} {ns:List Int}
    (KX:K.In s₁.heap) (hns:s₁.heap.Ns mainGlobals mg) (hb:s₁.heap.Ns builtinsNs mb) (hbb:∀ x:Str,x ≠ "__name__" -> mb x = bootBuiltins x) (hlim:s₁.heap.NoLimit) (hg:s₁.gens = #[])
    (ha:s₁.heap.get? a = some { cls:=.type "list",data:=.seq vs.toArray }) (hi:IntsAre vs ns) (hl:ns.length <= sizeLine) (hr:Room k callerA)
    (F:∀ base:Heap,K.In base -> base.Ns mainGlobals mg -> FnOk P w K mg base CX k fa fd [x] sp) (hbind:∀ (s:Shared) (u:Value),BindsTo s fd ⟨[u],[]⟩ [(x,u)])
    (hsp:∀ H:Hp,Only H -> SqL K H a (ns.map V.int) -> sp [.ref a] H (fun v _ => v = .bl true) fun _ _ _ => False)
    (hCX:∀ H e s',CX [] H s₁ (fun _ _ _ => False) e s' -> False) :
    codeAny (model P w) callerA (.call (.ref fa) ⟨[.ref a],[]⟩) (fun r s' => r = .ok (.ret (.bool true)) /\ OldK s₁.heap s'.heap /\ s'.os = s₁.os /\ AllBare s'.gens) s₁:=by
  have rv:=vals_ints hi
  have lenV:=hi.length
  -- from an abstract heap in which nothing but the script may be tracked
  have core:∀ H:Hp,Only H -> SqL K H a (ns.map V.int) -> HOk P w H s₁.heap -> (∀ b,H b ≠ none -> b = a) -> (H a ≠ none -> K.lookup a = none) ->
      codeAny (model P w) callerA (.call (.ref fa) ⟨[.ref a],[]⟩) (fun r s' => r = .ok (.ret (.bool true)) /\ OldK s₁.heap s'.heap /\ s'.os = s₁.os /\ AllBare s'.gens) s₁:=by
    intro H hO hS hok hA hK
    have base_of:∀ {b:Addr} {o:Obj},s₁.heap.get? b = some o -> H b = none -> (hidT s₁.heap H).get? b = some o:=fun e n => hidT_get e n
    have noA:∀ {b:Addr} {o:Obj} {es:Array DictEntry} {ep:Nat},s₁.heap.get? b = some o -> o.data = .dict es ep -> H b = none:=fun {b o es ep} e d => by
      cases q:H b with
      | none => rfl
      | some u =>
        have e':b = a:=hA b (by rw [q]; simp)
        subst e'
        rw [ha] at e; cases e
        have d':Data.seq vs.toArray _ = Data.dict es ep:=d
        cases d'
    have nsK:∀ {b:Addr} {m:Str -> Option Value},s₁.heap.Ns b m -> (hidT s₁.heap H).Ns b m:=fun {b m} ⟨o,es,ep,e,d,r⟩ => ⟨o,es,ep,base_of e (noA e d),d,r⟩
    have hKb:K.In (hidT s₁.heap H):=fun b o e => base_of (KX b o e) (by
      cases q:H b with
      | none => rfl
      | some u =>
        have e':b = a:=hA b (by rw [q]; simp)
        subst e'
        rw [hK (by rw [q]; simp)] at e; cases e)
    have hM:Mod K mg (hidT s₁.heap H):=⟨hKb,nsK hns,⟨mb,nsK hb,hbb⟩,let ⟨mc,h1,h2⟩:=hlim; ⟨mc,nsK h1,h2⟩⟩
    have e0:Env0 P w K mg (hidT s₁.heap H) callerA [] s₁ H:=⟨rfl,hM,fun b o e => of_hidT e,Nat.le_of_eq (hidT_size _ _),trivial,fun b hb => absurd (show b ∈ ([]:List Addr) from hb) (by simp),hok,.of_eq hg⟩
    refine codeAny_mono ((F _ hKb (nsK hns)).run callerA [] s₁ H ⟨[.ref a],[]⟩ [.ref a] [.ref a] _ _ hr e0 (hbind s₁ (.ref a)) (.cons rfl .nil) (hsp H hO hS)) fun r s' h => ?_
    cases r with
    | error e => exact (hCX H e s' h).elim
    | ok fl =>
      cases fl with
      | next => exact False.elim h
      | brk => exact False.elim h
      | cont => exact False.elim h
      | ret u =>
        obtain ⟨v,H',os,bare,un,hok',r',q⟩:=h
        have q':v = .bl true:=q
        subst q'
        obtain rfl:u = Value.bool true:=r'
        refine ⟨rfl,OldK.of_keep fun b o e => ?_,os,bare⟩
        cases q:H b with
        | none => exact un.keep b o e q (by intro z; exact absurd (show b ∈ ([]:List Addr) from z) (by simp)) (by simp)
        | some u =>
          rcases hO b with z | ⟨ob,xs,z⟩
          . rw [q] at z; cases z
          . have z2:=un.frzs b ob _ z
            obtain ⟨e1,_⟩:=hok b _ z
            obtain ⟨e2,_⟩:=hok' b _ z2
            rw [e] at e1; cases e1
            exact e2
  cases hk:K.lookup a with
  | some o =>
    -- the script is one of the module's own objects
    have e:=KX a o hk
    rw [ha] at e
    cases e
    refine core (fun _ => none) (fun _ => .inl rfl) (.inr ⟨_,vs.toArray,_,hk,rfl,rfl,rfl,by rw [List.size_toArray,lenV]; exact hl,by simpa using rv⟩) (fun b u z => by have z':(none:Option HO) = some u:=z; cases z') (fun b z => absurd rfl z) fun z => absurd rfl z
  | none =>
    refine core (fun b => if b = a then some (.frz { cls:=.type "list",data:=.seq vs.toArray } (.lst (ns.map V.int))) else none) (fun b => ?_) (.inl (.inr ⟨{ cls:=.type "list",data:=.seq vs.toArray },if_pos rfl⟩)) (fun b u z => ?_) (fun b z => ?_) fun _ => hk
    . by_cases hb:b = a
      . exact .inr ⟨_,_,if_pos hb⟩
      . exact .inl (if_neg hb)
    . by_cases hb:b = a
      . have z':=(if_pos hb).symm.trans z
        cases z'
        subst hb
        exact ⟨ha,by rw [List.length_map]; exact hl,vs,_,rv,ha⟩
      . have z':=(if_neg hb).symm.trans z
        cases z'
    . by_cases hb:b = a
      . exact hb
      . exact absurd (if_neg hb) z
end L2
namespace L2
open PySem PySem.Spec PyProof.Rows
theorem walk_of {l:PySem.W.OpenLaw} {n k:Nat} {q:Program} {loose:List Str} {XP:(Str -> Option Value) -> Heap -> Prop} {YP:World -> Heap -> Prop} {d:DefRec} {K:Params -> PySem.W.Frag} {CX:World -> CXT} {sp:World -> Sp} {x:Str}
    (hn:l.most = some n) (hn2:n <= sizeLine) (hdf:d.params.defaults = []) (hr:Room k callerA)
    (hY:∀ (w:World) (h:Heap),YP w h -> (K w.params).In h)
    (F:∀ (w:World) (mg:Str -> Option Value) (fa:Addr) (h:Heap),(K w.params).In h -> h.Ns mainGlobals mg -> mg d.name = some (.ref fa) ->
      ∃ fd:FuncData,(∀ (s:Shared) (u:Value),BindsTo s fd ⟨[u],[]⟩ [(x,u)]) /\
        ∀ base:Heap,(K w.params).In base -> base.Ns mainGlobals mg -> FnOk l.prog w (K w.params) mg base (CX w) k fa fd [x] (sp w))
    (hsp:∀ (w:World) (H:Hp) (a:Addr) (ns:List Int),ns.length <= n -> Only H -> SqL (K w.params) H a (ns.map V.int) -> sp w [.ref a] H (fun v _ => v = .bl true) fun _ _ _ => False)
    (hCX:∀ (w:World) (H:Hp) (s:Shared) (e:Value) (s':Shared),CX w [] H s (fun _ _ _ => False) e s' -> False) :
    PySem.W.WalkO q loose XP YP l.row.toRowW d [] (fun f vs => PySem.call f vs):=by
  refine Att.attach_call hn hdf fun w s₀ s₁ mg mb fa o pm cd doc a vs ns G Y ho hd hcd hmg hobj hints hlen hg => ?_
  have KX:=hY w _ Y
  obtain ⟨fd,hb,hF⟩:=F w mg fa _ KX G.T.g hmg
  exact law_call KX G.T.g G.T.b G.T.builtins G.T.nolimit hg hobj hints (Nat.le_trans hlen hn2) hr hF hb (fun H hO hS => hsp w H a ns hlen hO hS) fun H e s' => hCX w H s₁ e s'
end L2
/- THE LAST THEOREM (shape; LID,My.* are yours):
   My.Adr: a structure of the addresses that your layer names (classes,functions); My.Txt K t: a structure (Prop) of the equations over K;
   My.txt_mk:{K} {implicit addresses ..} (e1:nsIn K mainGlobals "law" = some (some (.ref f))) (e2:K.lookup f = some ⟨oc,od,.func (fnOf "law" "law" params body scope dV kV doc pm an cdv ct),sl⟩) (e3:codeIn K cdv "law" = true) ..:∃ t,My.Txt K t
(the tactic k_is has no namespace: write k_is) -/
namespace L2
open PySem PySem.Spec PyProof.Rows
noncomputable def defArgs (s:Stmt):Arguments:=match s with
  | .FunctionDef _ a _ _ _ _ _ _ _ _ => a
  | _ => { posonlyargs:=[],args:=[],vararg:=none,kwonlyargs:=[],kw_defaults:=[],kwarg:=none,defaults:=[] }
noncomputable def defBody (s:Stmt):List Stmt:=match s with
  | .FunctionDef _ _ b _ _ _ _ _ _ _ => b
  | _ => []
noncomputable def defScope (s:Stmt):Scope:=match s with
  | .FunctionDef _ _ _ _ _ _ sc _ _ _ => sc
  | _ => { kind:=.function,names:=[],isGenerator:=false,isCoroutine:=false }
noncomputable abbrev CX0:CXT:=fun _ _ _ _ _ _ => False
noncomputable abbrev E0:XK:=fun _ _ _ => False
theorem pass0 {X:Cx}:Passes CX0 X E0:=fun _ _ _ _ _ _ _ h => h.elim
structure Fun (K:PySem.W.Frag) (x qual:Str) (st:Stmt) (f:Addr) (fd:FuncData):Prop where
  ex:∃ (oc:Value) (od:Option Addr) (kV doc pm:Value) (an:Option Addr) (cdv ct:Value) (osl:Array (Option Value)),
    fd = PySem.W.fnOf x qual (defArgs st) (defBody st) (defScope st) .none kV doc pm an cdv ct /\ K.lookup f = some ⟨oc,od,.func fd,osl⟩ /\ PySem.W.codeIn K cdv qual = true
  kp:PySem.W.keepIn K (.ref f) = true
section
variable {P:Program} {w:World} {K:PySem.W.Frag} {mg:Str -> Option Value} {base:Heap}
theorem Fun.ok {x qual:Str} {st:Stmt} {f:Addr} {fd:FuncData} {N ps:List Str} {k:Nat} {sp:Sp} (F:Fun K x qual st f fd) (S:FnScope N ps (defScope st)) (len:∀ vs H Q E,sp vs H Q E -> vs.length = ps.length)
    (hbody:∀ (cdv:Value) (A:Around) (outer:List Env) (s:Shared) (H:Hp) (vs:List V) (Q:VK) (E:XK),Room k (A.deeper (envOfC qual (defScope st) s.heap.objs.size f cdv)) -> sp vs H Q E ->
      ∃ t,PSs (cxOf CX0 P w K mg base N qual (defScope st) f cdv A outer s H E).nox (defBody st) t /\ t { nx:=fun _ H' => Q .non H',rt:=Q } (start N vs) H):FnOk P w K mg base CX0 (k + 1) f fd ps sp:=by
  obtain ⟨oc,od,kV,doc,pm,an,cdv,ct,osl,rfl,lk,hcd⟩:=F.ex
  refine fn_of lk hcd S len fun A outer s H vs Q E hr hsp => ?_
  obtain ⟨t,h,q⟩:=hbody cdv A outer s H vs Q E hr hsp
  exact ⟨t,h.nox,q⟩
theorem fun_mk {x qual:Str} {st:Stmt} {f:Addr} {oc:Value} {od an:Option Addr} {osl:Array (Option Value)} {kV doc pm cdv ct:Value} (l:K.lookup f = some ⟨oc,od,.func (PySem.W.fnOf x qual (defArgs st) (defBody st) (defScope st) .none kV doc pm an cdv ct),osl⟩)
    (c:PySem.W.codeIn K cdv qual = true) (k:PySem.W.keepIn K (.ref f) = true):Fun K x qual st f (PySem.W.fnOf x qual (defArgs st) (defBody st) (defScope st) .none kV doc pm an cdv ct):=⟨⟨oc,od,kV,doc,pm,an,cdv,ct,osl,rfl,l,c⟩,k⟩
end
theorem small1000 {n:Nat} (h:n <= 1000):n < sizeLine:=Nat.lt_of_le_of_lt h (by decide)
section
variable {X:Cx}
theorem pv (i:Nat) {x:Str} {pos:Pos} (hN:X.N[i]? = some x:=by rfl) (hv:Vis X.env.scope x:=by first | exact Or.inl rfl | exact Or.inr (Or.inl rfl) | exact Or.inr (Or.inr rfl)) (hd:(x == ("__debug__":Str)) = false:=by decide)
    (hcd:(x == ("__classdict__":Str)) = false:=by decide):PE X (.Name x pos) (tVar i):=pe_var hN hv hd hcd
end
theorem iteF {A B:Prop} (h:B):if false = true then A else B:=by
  rw [if_neg Bool.false_ne_true]
  exact h
theorem iteT {A B:Prop} (h:A):if true = true then A else B:=by
  rw [if_pos rfl]
  exact h
noncomputable def Same (H H':Hp):Prop:=∀ b o,H b = some o -> H' b = some o
theorem Same.refl (H:Hp):Same H H:=fun _ _ h => h
theorem Same.trans {H H1 H2:Hp} (a:Same H H1) (b:Same H1 H2):Same H H2:=fun c o h => b c o (a c o h)
theorem Same.free {H H':Hp} (e:Same H H') {l:Addr} (h:H' l = Option.none):H l = Option.none:=by
  cases q:H l with
  | none => rfl
  | some o =>
    rw [e l o q] at h
    cases h
theorem Same.seq {K:PySem.W.Frag} {H H':Hp} {a:Addr} {xs:List V} (e:Same H H') (h:SqL K H a xs):SqL K H' a xs:=by
  rcases h with (h | ⟨o,h⟩) | h
  . exact .inl (.inl (e _ _ h))
  . exact .inl (.inr ⟨o,e _ _ h⟩)
  . exact .inr h
end L2
namespace L2
open PySem PySem.Spec PyProof.Rows
section
variable {κ:Type} [DecidableEq κ]
end
section
variable {P:Program} {w:World} {H:Hp} {h:Heap} {a:Addr}
end
section
variable {X:Cx} {pins:List (Addr×Obj)} {σ:St} {H:Hp} {s:Shared} {a:Addr} {y v:V} {u r:Value} {o:Option V} {A:Around} {E:Value -> Shared -> Prop}
theorem Inv.big (I:Inv X pins σ H s):sysModules < s.heap.objs.size:=by
  have h:mainGlobals < s.heap.objs.size:=(I.mod.glob.keeps I.bk).lt
  exact Nat.lt_trans (by decide) h
end
section
variable {X:Cx} {pins:List (Addr×Obj)} {σ:St} {H:Hp} {s:Shared} {a:Addr} {kvs:List (Key×V)} {k:Key} {u:Value} {A:Around} {E:Value -> Shared -> Prop}
end
section
variable {X:Cx} {o i e value:Expr} {pos pos' tpos:Pos} {td ty tv:TE}
end
theorem dk_empty {P:Program} {w:World} {H:Hp} (h:Heap) (hb:sysModules < h.objs.size):ObjOk P w H (h.push { cls:=.type "dict",data:=.dict #[] }) h.objs.size (.dK []) :=
  ⟨Nat.zero_le _,beq_eq_false_iff_ne.mpr (Ne.symm (Nat.ne_of_lt hb)),[],.nil,Heap.DictOf.new h⟩
noncomputable def tDNewK:TE:=fun _ H Q => ∀ p,H p = none -> Q (.ref p) (upd H p (.dK []))
section
variable {X:Cx} {pos:Pos}
theorem pe_dnewK:PE X (.Dict [] [] pos) tDNewK:=fun pins s σ H Q I h =>
  wpAny_Dict_empty ⟨.ref s.heap.objs.size,_,I.laid (a:=s.heap.objs.size) (o:=.dK []) (t':=s.toks) (fun _ _ q => Heap.get?_push_of_some _ q) (Nat.le_refl _) (dk_empty s.heap I.big),rfl,h _ (I.hok.fresh (Nat.le_refl _))⟩
end
section
variable {X:Cx} {pins:List (Addr×Obj)} {σ:St} {H:Hp} {s:Shared} {a:Addr} {y d:V} {u r:Value} {o:Option V} {A:Around} {E:Value -> Shared -> Prop}
end
section
variable {X:Cx} {o e f:Expr} {apos cpos:Pos} {td ty tx:TE}
end
section
variable {X:Cx} {pins:List (Addr×Obj)} {σ:St} {H:Hp} {s:Shared} {a:Addr} {kvs:List (Key×V)} {A:Around} {E:Value -> Shared -> Prop}
end
section
variable {X:Cx} {pins:List (Addr×Obj)} {σ:St} {H:Hp} {s:Shared} {a:Addr} {y:V} {u:Value} {A:Around} {E:Value -> Shared -> Prop}
end
end L2
namespace L2
open PySem PySem.Spec PyProof.Rows
section
variable {κ:Type} [DecidableEq κ]
end
end L2
namespace L2
open PySem PySem.Spec PyProof.Rows
noncomputable def Sm (n:Nat) (x:Int):Prop:=x.natAbs < 2 ^ n
theorem Sm.mono {m n:Nat} {x:Int} (h:Sm m x) (l:m <= n):Sm n x:=Nat.lt_of_lt_of_le h (Nat.pow_le_pow_right (by decide) l)
theorem Sm.bits {n:Nat} {x:Int} (h:Sm n x):Builtin.Int.intBits x <= n:=by
  unfold Builtin.Int.intBits
  split
  . exact Nat.zero_le _
  . have hn:x.natAbs < 2 ^ n:=h
    rename_i hx
    have h0 : x.natAbs ≠ 0 := fun e => hx (by have : x = 0 := by omega
                                              rw [this]; rfl)
    have:x.natAbs.log2 < n:=(Nat.log2_lt h0).mpr hn
    omega
theorem Sm.mulOk {a b:Int} {m n:Nat} (ha:Sm m a) (hb:Sm n b) (h:m + n <= 134217728):IntMulOk a b:=PyProof.Rows.mulOk_of_bits ha.bits hb.bits h
theorem Sm.log2 {n:Nat} {x:Int} (h:Sm n x):x.natAbs.log2 < n + 1:=by
  have hn:x.natAbs < 2 ^ n:=h
  by_cases h0:x.natAbs = 0
  . rw [h0,Nat.log2_zero]; omega
  . have:=(Nat.log2_lt h0).mpr hn
    omega
theorem Sm.of {n:Nat} {x:Int} (h1:-(2 ^ n:Nat) < x) (h2:x < (2 ^ n:Nat)):Sm n x:=by
  unfold Sm
  generalize 2 ^ n = k at *
  omega
theorem Sm.le {a b:Int} {n:Nat} (h:a.natAbs <= b.natAbs) (hb:Sm n b):Sm n a:=Nat.lt_of_le_of_lt h hb
section
variable {X:Cx}
noncomputable def CDivB (_ j:Int):Prop:=j ≠ 0 /\ Sm 8000 j
theorem op_fdivB:OpR X (binaryOp .FloorDiv) (rI CDivB fun i j => .int (i.fdiv j)):=opI fun _ _ _ _ _ _ _ hc q => floordiv_int hc.1 q (.inl (PyProof.noPylong_of_log2 (Nat.lt_trans hc.2.log2 (by decide))))
noncomputable def CMulB (i j:Int):Prop:=CMul i j ∨ (Sm 60000000 i /\ Sm 60000000 j)
theorem CMulB.ok {i j:Int} (h:CMulB i j):IntMulOk i j:=by
  rcases h with h | ⟨h1,h2⟩
  . exact h.ok
  . exact h1.mulOk h2 (by decide)
theorem CMulB.l {i j:Int} (h1:-(2 ^ 64) < i) (h2:i < 2 ^ 64):CMulB i j:=.inl (.inl ⟨h1,h2⟩)
theorem CMulB.r {i j:Int} (h1:-(2 ^ 64) < j) (h2:j < 2 ^ 64):CMulB i j:=.inl (.inr ⟨h1,h2⟩)
theorem op_mulB:OpR X (binaryOp .Mult) (rI CMulB fun i j => .int (i * j)):=opI fun _ _ _ _ _ _ _ hc q => mul_int q hc.ok
noncomputable def rIsTy (K:PySem.W.Frag) (T:String):List V -> Hp -> VK -> Prop:=fun xs H Q => ∃ x t b,xs = [x,.ty T] /\ TyOf K H x t /\ PySem.W.kitOne K t (.type T) = some b /\ Q (.bl b) H
theorem call_isTy {T:String}:CallR X (.builtin "isinstance") (rIsTy X.K T):=by
  intro pins s σ H xs us Q I r h
  obtain ⟨x,t,b,rfl,ty,e,q⟩:=h
  obtain ⟨u,v,rfl,ru,rv⟩:=Vals.two r
  obtain rfl:v = Value.type T:=rv
  exact isinst_ok I ru ty e fun tk => ⟨.bl b,H,I.tok tk,rfl,q⟩
end
section
variable {σ:St} {H H':Hp} {Q:VK} {D:Ends} {t u:TS} {te ta tb:TE} {v w x:V} {i j:Int} {b c:Bool} {X:Cx} {K:PySem.W.Frag}
theorem r_var {n:Nat} (h:σ[n]? = some (some v)) (k:Q v H):tVar n σ H Q:=⟨v,h,k⟩
theorem r_c (k:Q v H):tC v σ H Q:=k
theorem r_seq (k:t ⟨u D,D.rt,D.bk,D.ct⟩ σ H):tSeq t u D σ H:=k
theorem r_nx {n r b' c'} (k:n σ H):Ends.nx ⟨n,r,b',c'⟩ σ H:=k
theorem r_rt {n r b' c'} (k:r v H):Ends.rt ⟨n,r,b',c'⟩ v H:=k
theorem r_next (k:D.nx σ H):tNext D σ H:=k
theorem r_asg {g:TG} (k:te σ H fun x H1 => g x σ H1 D.nx):tAsg te g D σ H:=k
theorem r_gname {n:Nat} {R:St -> Hp -> Prop} (k:R (σ.set n (some v)) H):gName n v σ H R:=k
theorem r_op {r:R2} (k:ta σ H fun x H1 => tb σ H1 fun y H2 => r x y H2 Q):tOp r ta tb σ H Q:=k
theorem r_un {r} (k:ta σ H fun x H1 => r x H1 Q):tUn r ta σ H Q:=k
theorem r_I0 {g} (k:Q (g i j) H):rI0 g (.int i) (.int j) H Q:=⟨i,j,rfl,rfl,k⟩
theorem r_I {C g} (c:C i j) (k:Q (g i j) H):rI C g (.int i) (.int j) H Q:=⟨i,j,rfl,rfl,c,k⟩
theorem r_U {g} (k:Q (g i) H):rU g (.int i) H Q:=⟨i,rfl,k⟩
noncomputable def bK (R:Bool -> Hp -> Prop):VK:=fun x H => ∃ k,x = .bl k /\ R k H
theorem r_bK {R:Bool -> Hp -> Prop} (k:R b H):bK R (.bl b) H:=⟨b,rfl,k⟩
theorem r_test {R:Bool -> Hp -> Prop} (k:te σ H (bK R)):tTest te σ H R:=k
theorem r_tB {R:Bool -> Hp -> Prop} (k:te σ H (bK R)):tB te σ H R:=k
theorem r_ifS {tc:TT} (k:tc σ H fun b H1 => if b = true then t D σ H1 else u D σ H1):tIfS tc t u D σ H:=k
theorem r_if {tc:TT} (k:tc σ H fun b H1 => if b = true then ta σ H1 Q else tb σ H1 Q):tIf tc ta tb σ H Q:=k
theorem r_and {ca cb:TT} {R:Bool -> Hp -> Prop} (k:ca σ H fun c H1 => if c = true then cb σ H1 R else R false H1):tAnd ca cb σ H R:=k
theorem r_or {ca cb:TT} {R:Bool -> Hp -> Prop} (k:ca σ H fun c H1 => if c = true then R true H1 else cb σ H1 R):tOr ca cb σ H R:=k
theorem r_not {ca:TT} {R:Bool -> Hp -> Prop} (k:ca σ H fun c H1 => R (!c) H1):tNot ca σ H R:=k
noncomputable def andK (tb:TE) (σ:St) (Q:VK):VK:=fun x H1 => ∃ c,x = .bl c /\ if c = true then tb σ H1 Q else Q (.bl false) H1
noncomputable def notK (Q:VK):VK:=fun x H1 => ∃ c,x = .bl c /\ Q (.bl (!c)) H1
theorem r_andV (k:ta σ H (andK tb σ Q)):tAndV ta tb σ H Q:=k
theorem r_notV (k:ta σ H (notK Q)):tNotV ta σ H Q:=k
theorem r_andK (k:if c = true then tb σ H Q else Q (.bl false) H):andK tb σ Q (.bl c) H:=⟨c,rfl,k⟩
theorem r_notK (k:Q (.bl (!c)) H):notK Q (.bl c) H:=⟨c,rfl,k⟩
theorem r_ret (k:te σ H D.rt):tRet te D σ H:=k
theorem r_drop (k:te σ H fun _ H1 => D.nx σ H1):tDrop te D σ H:=k
theorem r_nil {R:List V -> Hp -> Prop} (k:R [] H):tNil σ H R:=k
theorem r_cons {tr:TA} {R:List V -> Hp -> Prop} (k:ta σ H fun x H1 => tr σ H1 fun xs H2 => R (x :: xs) H2):tCons ta tr σ H R:=k
noncomputable def tupK (Q:VK):List V -> Hp -> Prop:=fun xs H1 => xs.length <= sizeLine /\ ∀ p,H1 p = none -> Q (.ref p) (upd H1 p (.tup xs))
noncomputable def lstK (Q:VK):List V -> Hp -> Prop:=fun xs H1 => xs.length <= sizeLine /\ ∀ p,H1 p = none -> Q (.ref p) (upd H1 p (.lst xs))
theorem le_line {n:Nat} (h:n <= 1000):n <= sizeLine:=Nat.le_of_lt (small1000 h)
theorem r_tup {tr:TA} (k:tr σ H (tupK Q)):tTup tr σ H Q:=k
theorem r_lst {tr:TA} (k:tr σ H (lstK Q)):tLst tr σ H Q:=k
theorem r_tupK {xs:List V} (k:∀ p,H p = none -> Q (.ref p) (upd H p (.tup xs))) (h:xs.length <= 1000:=by exact Nat.le_of_ble_eq_true rfl):tupK Q xs H:=⟨le_line h,k⟩
theorem r_lstK {xs:List V} (k:∀ p,H p = none -> Q (.ref p) (upd H p (.lst xs))) (h:xs.length <= 1000:=by exact Nat.le_of_ble_eq_true rfl):lstK Q xs H:=⟨le_line h,k⟩
theorem r_call {sp:Sp} {E:XK} {tr:TA} (k:tr σ H fun vs H1 => sp vs H1 Q E):tCall sp [] E tr σ H Q:=by
  show tr σ H fun vs H1 => sp (vs ++ []) H1 Q E
  have e:(fun (vs:List V) H1 => sp (vs ++ []) H1 Q E) = fun vs H1 => sp vs H1 Q E:=by
    funext vs H1
    rw [List.append_nil]
  rw [e]; exact k
theorem r_CB {r} {tr:TA} (k:tr σ H fun vs H1 => r vs H1 Q):tCB r tr σ H Q:=k
theorem r_par {n m:Nat} {ta:TA} (k:ta σ H fun vs H1 => ∃ v w,vs = [v,w] /\ D.nx ((σ.set n (some v)).set m (some w)) H1):tPar n m ta D σ H:=k
theorem r_eqI (k:Q (.bl (decide (i = j))) H):rEq (.int i) (.int j) H Q:=⟨rfl,by rw [dec_int,Bool.beq_eq_decide_eq]; exact k⟩
theorem r_neI (k:Q (.bl (!decide (i = j))) H):rNe (.int i) (.int j) H Q:=⟨rfl,by rw [dec_int,Bool.beq_eq_decide_eq]; exact k⟩
theorem r_ixL {p:Addr} {xs:List V} (h:SqL K H p xs) (e:atI xs i = some v) (k:Q v H):rIxL K (.ref p) (.int i) H Q:=⟨p,xs,i,v,rfl,rfl,h,e,k⟩
theorem r_ixT {p:Addr} {xs:List V} (h:SqT K H p xs) (e:atI xs i = some v) (k:Q v H):rIxT K (.ref p) (.int i) H Q:=⟨p,xs,i,v,rfl,rfl,h,e,k⟩
noncomputable def rIxLT (K:PySem.W.Frag):R2:=fun x y H Q => rIxL K x y H Q ∨ rIxT K x y H Q ∨ rIxS x y H Q
theorem ix_LT:IxR X (rIxLT X.K):=ix_seq
theorem r_ixl {p:Addr} {xs:List V} (h:H p = some (.lst xs)) (e:atI xs i = some v) (k:Q v H):rIxLT K (.ref p) (.int i) H Q:=.inl (r_ixL (SqL.of h) e k)
theorem r_ixt {p:Addr} {xs:List V} (h:H p = some (.tup xs)) (e:atI xs i = some v) (k:Q v H):rIxLT K (.ref p) (.int i) H Q:=.inr (.inl (r_ixT (SqT.of h) e k))
theorem i_T {A B:Prop} (h:A):if true = true then A else B:=iteT h
theorem i_F {A B:Prop} (h:B):if false = true then A else B:=iteF h
theorem i_dT {p A B:Prop} [Decidable p] (hp:p) (h:A):if decide p = true then A else B:=by rw [decide_eq_true hp]; exact iteT h
theorem i_dF {p A B:Prop} [Decidable p] (hp:¬ p) (h:B):if decide p = true then A else B:=by rw [decide_eq_false hp]; exact iteF h
theorem i_d {p A B:Prop} [Decidable p] (h1:p -> A) (h2:¬ p -> B):if decide p = true then A else B:=by
  by_cases h:p
  . exact i_dT h (h1 h)
  . exact i_dF h (h2 h)
theorem i_flip {A B:Prop} (h:if b = true then B else A):if (!b) = true then A else B:=by cases b <;> exact h
theorem i_bT {A B:Prop} (hb:b = true) (h:A):if b = true then A else B:=by rw [hb]; exact i_T h
theorem i_bF {A B:Prop} (hb:b = false) (h:B):if b = true then A else B:=by rw [hb]; exact i_F h
end
noncomputable def Kp (p:Addr) (H H':Hp):Prop:=∀ b o,b ≠ p -> H b = some o -> H' b = some o
theorem Kp.trans {p:Addr} {H H1 H2:Hp} (a:Kp p H H1) (b:Kp p H1 H2):Kp p H H2:=fun c o n h => b c o n (a c o n h)
theorem Kp.upd {p:Addr} {H:Hp} {o:HO}:Kp p H (upd H p o):=fun c u n h => by rw [upd_ne n]; exact h
theorem Kp.new {p q:Addr} {H:Hp} {o:HO} (hq:H q = none):Kp p H (L2.upd H q o):=fun c u n h => by rw [upd_ne (ne_of_none h hq)]; exact h
theorem Same.new {q:Addr} {H:Hp} {o:HO} (hq:H q = none):Same H (upd H q o):=fun c u h => by rw [upd_ne (ne_of_none h hq)]; exact h
theorem Same.kp {p:Addr} {H H':Hp} (s:Same H H'):Kp p H H':=fun c o _ h => s c o h
theorem Same.kpn {p:Addr} {H H2 H3:Hp} (h:H p = none) (a:Same H H2) (k:Kp p H2 H3):Same H H3:=fun c o e => k c o (ne_of_none e h) (a c o e)
noncomputable def St3 (H:Hp) (p:Addr) (n:Int):Prop:=∃ a b c:Int,H p = some (.lst [.int a,.int b,.int c]) /\ 0 <= a /\ 0 <= b /\ b <= n
structure Df (K:PySem.W.Frag) (mg:Str -> Option Value) (x:Str) (st:Stmt) (ps:List Str):Prop where
  ex:∃ (f:Addr) (fd:FuncData),(∃ (oc:Value) (od:Option Addr) (dV kV doc pm:Value) (an:Option Addr) (cdv ct:Value) (osl:Array (Option Value)),
    fd = PySem.W.fnOf x x (defArgs st) (defBody st) (defScope st) dV kV doc pm an cdv ct /\ K.lookup f = some ⟨oc,od,.func fd,osl⟩ /\ PySem.W.codeIn K cdv x = true) /\ PySem.W.keepIn K (.ref f) = true /\ mg x = some (.ref f) /\ Binds K fd ps []
structure Okf (P:Program) (w:World) (K:PySem.W.Frag) (mg:Str -> Option Value) (base:Heap) (k:Nat) (x:Str) (ps:List Str) (sp:Sp):Prop where
  ex:∃ (f:Addr) (fd:FuncData),mg x = some (.ref f) /\ PySem.W.keepIn K (.ref f) = true /\ Binds K fd ps [] /\ FnOk P w K mg base CX0 k f fd ps sp
theorem Okf.mono {P:Program} {w:World} {K:PySem.W.Frag} {mg:Str -> Option Value} {base:Heap} {j k:Nat} {x:Str} {ps:List Str} {sp:Sp} (o:Okf P w K mg base j x ps sp) (h:j <= k):Okf P w K mg base k x ps sp :=
  let ⟨f,fd,a,b,c,d⟩:=o.ex; ⟨f,fd,a,b,c,d.mono h⟩
theorem Okf.of {P:Program} {w:World} {K:PySem.W.Frag} {mg:Str -> Option Value} {base:Heap} {k:Nat} {x:Str} {st:Stmt} {N ps:List Str} {sp:Sp} (d:Df K mg x st ps) (S:FnScope N ps (defScope st)) (len:∀ vs H Q E,sp vs H Q E -> vs.length = ps.length)
    (hbody:∀ (f:Addr) (cdv:Value) (A:Around) (outer:List Env) (s:Shared) (H:Hp) (vs:List V) (Q:VK) (E:XK),Room k (A.deeper (envOfC x (defScope st) s.heap.objs.size f cdv)) -> sp vs H Q E ->
      ∃ t,PSs (cxOf CX0 P w K mg base N x (defScope st) f cdv A outer s H E).nox (defBody st) t /\ t { nx:=fun _ H' => Q .non H',rt:=Q } (start N vs) H):Okf P w K mg base (k + 1) x ps sp:=by
  obtain ⟨f,fd,⟨oc,od,dV,kV,doc,pm,an,cdv,ct,osl,rfl,lk,hcd⟩,kp,a,b⟩:=d.ex
  refine ⟨f,_,a,kp,b,fn_of lk hcd S len fun A outer s H vs Q E hr hsp => ?_⟩
  obtain ⟨t,h,q⟩:=hbody f cdv A outer s H vs Q E hr hsp
  exact ⟨t,h.nox,q⟩
theorem df_mk {K:PySem.W.Frag} {mg:Str -> Option Value} {h:Heap} {x:Str} {st:Stmt} {ps:List Str} {f:Addr} {oc:Value} {od an:Option Addr} {osl:Array (Option Value)} {dV kV doc pm cdv ct:Value} (X:K.In h) (G:h.Ns mainGlobals mg)
    (a:PySem.W.nsIn K mainGlobals x = some (some (.ref f))) (l:K.lookup f = some ⟨oc,od,.func (PySem.W.fnOf x x (defArgs st) (defBody st) (defScope st) dV kV doc pm an cdv ct),osl⟩)
    (c:PySem.W.codeIn K cdv x = true) (k:PySem.W.keepIn K (.ref f) = true)
    (b:∀ us:List Value,us.length = ps.length -> bindArgs (PySem.W.fnOf x x (defArgs st) (defBody st) (defScope st) dV kV doc pm an cdv ct) ⟨us,[]⟩ = pure (ps.zip us)):Df K mg x st ps :=
  ⟨f,_,⟨oc,od,dV,kV,doc,pm,an,cdv,ct,osl,rfl,l,c⟩,k,PySem.W.mg_of X G a,.all b⟩
section
variable {X:Cx} {k:Nat} {x:Str} {ps:List Str} {dvs:List V} {sp:Sp} {p pos:Pos} {e:Expr} {es:List Expr} {t:TA}
end
section
variable {X:Cx} {k:Nat} {x:Str} {ps:List Str} {sp:Sp} {p pos:Pos} {e:Expr} {es:List Expr} {t:TA}
theorem pe_callO (o:Okf X.prog X.w X.K X.mg X.base k x ps sp) (hr:Room k X.A) (hg:Gl X x) (ha:PA X (e :: es) t) (hdb:(x == ("__debug__":Str)) = false:=by decide)
    (he:starEach (e :: es) X.env = (false,eval e X.env) :: starEach es X.env:=by rfl) (hpl:(backTo pos (starEach es X.env)).any (·.1) = false:=by rfl) :
    PE X (.Call (.Name x p) (e :: es) [] pos) (tCall sp [] E0 t):=by
  obtain ⟨f,fd,a,b,c,d⟩:=o.ex
  exact pe_call d hr hg a b c .nil pass0 ha hdb he hpl
end
section
variable {σ:St} {H:Hp} {Q:VK} {D:Ends} {v:V} {i j:Int} {K:PySem.W.Frag}
theorem r_ixs {p:Addr} {xs:List V} (h:SqL K H p xs) (e:atI xs i = some v) (k:Q v H):rIxLT K (.ref p) (.int i) H Q:=.inl (r_ixL h e k)
theorem r_mod (h:0 < j) (k:Q (.int (i % j)) H):rI (fun _ j => 0 < j) (fun i j => .int (i % j)) (.int i) (.int j) H Q:=r_I h k
theorem r_mul (h:CMulB i j) (k:Q (.int (i * j)) H):rI CMulB (fun i j => .int (i * j)) (.int i) (.int j) H Q:=r_I h k
theorem CDivB.of (h0:0 < j) (h1:j < 2 ^ 64):CDivB i j:=⟨by omega,Sm.mono (m:=64) (Sm.of (by omega) (by omega)) (by decide)⟩
theorem r_fdiv (h:CDivB i j) (k:Q (.int (i.fdiv j)) H):rI CDivB (fun i j => .int (i.fdiv j)) (.int i) (.int j) H Q:=r_I h k
theorem r_pow18 (k:Q (.int 1000000000000000000) H):rI CPow (fun i j => .int (i ^ j.toNat)) (.int 10) (.int 18) H Q:=r_I ⟨by decide,by decide,by decide⟩ k
theorem r_parK {n m:Nat} {w:V} (k:D.nx ((σ.set n (some v)).set m (some w)) H):∃ v' w',[v,w] = [v',w'] /\ D.nx ((σ.set n (some v')).set m (some w')) H:=⟨v,w,rfl,k⟩
end
theorem bt_int:bootBuiltins "int" = some (.type "int"):=by decide +kernel
theorem bt_bool:bootBuiltins "bool" = some (.type "bool"):=by decide +kernel
theorem bt_str:bootBuiltins "str" = some (.type "str"):=by decide +kernel
theorem bt_list:bootBuiltins "list" = some (.type "list"):=by decide +kernel
theorem bt_tuple:bootBuiltins "tuple" = some (.type "tuple"):=by decide +kernel
theorem bt_enumerate:bootBuiltins "enumerate" = some (.type "enumerate"):=by decide +kernel
theorem bt_len:bootBuiltins "len" = some (.builtin "len"):=by decide +kernel
theorem bt_abs:bootBuiltins "abs" = some (.builtin "abs"):=by decide +kernel
theorem bt_max:bootBuiltins "max" = some (.builtin "max"):=by decide +kernel
theorem bt_min:bootBuiltins "min" = some (.builtin "min"):=by decide +kernel
theorem bt_isinstance:bootBuiltins "isinstance" = some (.builtin "isinstance"):=by decide +kernel
theorem bt_all:bootBuiltins "all" = some (.builtin "all"):=by decide +kernel
structure Bl (mg:Str -> Option Value):Prop where
  z_int:mg "int" = none
  z_bool:mg "bool" = none
  z_str:mg "str" = none
  z_list:mg "list" = none
  z_tuple:mg "tuple" = none
  z_dict:mg "dict" = none
  z_set:mg "set" = none
  z_range:mg "range" = none
  z_enumerate:mg "enumerate" = none
  z_zip:mg "zip" = none
  z_reversed:mg "reversed" = none
  z_len:mg "len" = none
  z_abs:mg "abs" = none
  z_max:mg "max" = none
  z_min:mg "min" = none
  z_isinstance:mg "isinstance" = none
  z_sorted:mg "sorted" = none
  z_all:mg "all" = none
  z_any:mg "any" = none
  z_sum:mg "sum" = none
section
variable {K:PySem.W.Frag} {H:Hp} {Q:VK}
theorem kit_bool_bool:PySem.W.kitOne K (.type "bool") (.type "bool") = some true:=by first | rfl | with_unfolding_all rfl | decide
theorem kit_bool_int:PySem.W.kitOne K (.type "bool") (.type "int") = some true:=by first | rfl | with_unfolding_all rfl | decide
theorem kit_int_bool:PySem.W.kitOne K (.type "int") (.type "bool") = some false:=by first | rfl | with_unfolding_all rfl | decide
theorem kit_int_int:PySem.W.kitOne K (.type "int") (.type "int") = some true:=by first | rfl | with_unfolding_all rfl | decide
theorem kit_int_str:PySem.W.kitOne K (.type "int") (.type "str") = some false:=by first | rfl | with_unfolding_all rfl | decide
theorem kit_int_tuple:PySem.W.kitOne K (.type "int") (.type "tuple") = some false:=by first | rfl | with_unfolding_all rfl | decide
theorem kit_int_list:PySem.W.kitOne K (.type "int") (.type "list") = some false:=by first | rfl | with_unfolding_all rfl | decide
theorem kit_str_bool:PySem.W.kitOne K (.type "str") (.type "bool") = some false:=by first | rfl | with_unfolding_all rfl | decide
theorem kit_str_int:PySem.W.kitOne K (.type "str") (.type "int") = some false:=by first | rfl | with_unfolding_all rfl | decide
theorem kit_str_str:PySem.W.kitOne K (.type "str") (.type "str") = some true:=by first | rfl | with_unfolding_all rfl | decide
theorem kit_str_tuple:PySem.W.kitOne K (.type "str") (.type "tuple") = some false:=by first | rfl | with_unfolding_all rfl | decide
theorem kit_str_list:PySem.W.kitOne K (.type "str") (.type "list") = some false:=by first | rfl | with_unfolding_all rfl | decide
theorem kit_tuple_tuple:PySem.W.kitOne K (.type "tuple") (.type "tuple") = some true:=by first | rfl | with_unfolding_all rfl | decide
theorem kit_tuple_list:PySem.W.kitOne K (.type "tuple") (.type "list") = some false:=by first | rfl | with_unfolding_all rfl | decide
theorem kit_list_str:PySem.W.kitOne K (.type "list") (.type "str") = some false:=by first | rfl | with_unfolding_all rfl | decide
theorem kit_list_tuple:PySem.W.kitOne K (.type "list") (.type "tuple") = some false:=by first | rfl | with_unfolding_all rfl | decide
theorem kit_list_list:PySem.W.kitOne K (.type "list") (.type "list") = some true:=by first | rfl | with_unfolding_all rfl | decide
theorem kit_dict_list:PySem.W.kitOne K (.type "dict") (.type "list") = some false:=by first | rfl | with_unfolding_all rfl | decide
theorem kit_NoneType_bool:PySem.W.kitOne K (.type "NoneType") (.type "bool") = some false:=by first | rfl | with_unfolding_all rfl | decide
theorem kit_NoneType_int:PySem.W.kitOne K (.type "NoneType") (.type "int") = some false:=by first | rfl | with_unfolding_all rfl | decide
theorem kit_NoneType_tuple:PySem.W.kitOne K (.type "NoneType") (.type "tuple") = some false:=by first | rfl | with_unfolding_all rfl | decide
theorem kit_NoneType_list:PySem.W.kitOne K (.type "NoneType") (.type "list") = some false:=by first | rfl | with_unfolding_all rfl | decide
theorem r_isTy {T:String} {x:V} {t:Value} {b:Bool} (ty:TyOf K H x t) (e:PySem.W.kitOne K t (.type T) = some b) (k:Q (.bl b) H):rIsTy K T [x,.ty T] H Q:=⟨x,t,b,rfl,ty,e,k⟩
end
section
variable {X:Cx} {K:PySem.W.Frag} {σ:St} {H:Hp} {Q:VK} {D:Ends} {i j:Int} {b:Bool}
noncomputable def rAbs:List V -> Hp -> VK -> Prop:=fun xs H Q => ∃ i,xs = [.int i] /\ Q (.int (if i < 0 then -i else i)) H
theorem c_abs:CallR X (.builtin "abs") rAbs:=call_abs
theorem r_abs (k:Q (.int (if i < 0 then -i else i)) H):rAbs [.int i] H Q:=⟨i,rfl,k⟩
noncomputable def rMax2:List V -> Hp -> VK -> Prop:=fun xs H Q => ∃ i j,xs = [.int i,.int j] /\ Q (.int (if j > i then j else i)) H
theorem c_max (hc:X.calm = true):CallR X (.builtin "max") rMax2:=call_max2 hc
theorem r_max (k:Q (.int (if j > i then j else i)) H):rMax2 [.int i,.int j] H Q:=⟨i,j,rfl,k⟩
noncomputable def rMin2:List V -> Hp -> VK -> Prop:=fun xs H Q => ∃ i j,xs = [.int i,.int j] /\ Q (.int (if j < i then j else i)) H
theorem c_min (hc:X.calm = true):CallR X (.builtin "min") rMin2:=call_min2 hc
theorem r_min (k:Q (.int (if j < i then j else i)) H):rMin2 [.int i,.int j] H Q:=⟨i,j,rfl,k⟩
noncomputable def rLen (K:PySem.W.Frag):List V -> Hp -> VK -> Prop:=fun xs H Q => ∃ x n,xs = [x] /\ LenV K x H n /\ Q (.int n) H
theorem c_len:CallR X (.builtin "len") (rLen X.K):=call_len
theorem r_lenL {p:Addr} {xs:List V} (h:SqL K H p xs) (k:Q (.int xs.length) H):rLen K [.ref p] H Q:=⟨_,_,rfl,.inl ⟨xs,h,rfl⟩,k⟩
theorem r_lenl {p:Addr} {xs:List V} (h:H p = some (.lst xs)) (k:Q (.int xs.length) H):rLen K [.ref p] H Q:=r_lenL (SqL.of h) k
theorem r_lent {p:Addr} {xs:List V} (h:H p = some (.tup xs)) (k:Q (.int xs.length) H):rLen K [.ref p] H Q:=⟨_,_,rfl,.inr ⟨xs,SqT.of h,rfl⟩,k⟩
theorem r_lens {x:Str} (h:x.length <= sizeLine) (k:Q (.int x.length) H):rLen K [.str x] H Q:=⟨_,_,rfl,⟨h,rfl⟩,k⟩
noncomputable def forK (g:TG) (tb:TS) (D:Ends) (σ:St):It -> Hp -> Prop:=fun J H1 => ∃ W:Nat -> Nat -> St -> Hp -> Prop,(∃ m,W 0 m σ H1) /\ ∀ i m σ H,W i m σ H ->
  (J.stop i H /\ D.nx σ H) ∨ (J.go i H /\ ∃ N:St -> Hp -> Prop,(∀ σ' H',N σ' H' -> ∃ m',m' < m /\ W (i + 1) m' σ' H') /\ ∀ x H',J.yld i H x H' -> g x σ H' fun σ2 H2 => tb { D with nx:=N,ct:=N,bk:=D.nx } σ2 H2)
theorem r_for {wi:TI} {g:TG} {tb:TS} (k:wi σ H (forK g tb D σ)):tFor wi g tb D σ H:=k
noncomputable def rng1K (R:It -> Hp -> Prop):List V -> Hp -> Prop:=fun vs H1 => ∃ j:Int,vs = [.int j] /\ -(2 ^ 62) <= j /\ j < 2 ^ 62 /\ R (Itr 0 j.toNat) H1
noncomputable def rng2K (R:It -> Hp -> Prop):List V -> Hp -> Prop:=fun vs H1 => ∃ i j:Int,vs = [.int i,.int j] /\ (-(2 ^ 62) <= i /\ i < 2 ^ 62 /\ -(2 ^ 62) <= j /\ j < 2 ^ 62) /\ R (Itr i (j - i).toNat) H1
theorem r_rng1 {ta:TA} {R:It -> Hp -> Prop} (k:ta σ H (rng1K R)):iRng1 ta σ H R:=k
theorem r_rng2 {ta:TA} {R:It -> Hp -> Prop} (k:ta σ H (rng2K R)):iRng2 ta σ H R:=k
theorem r_rng1K {R:It -> Hp -> Prop} (h1:-(2 ^ 62) <= j) (h2:j < 2 ^ 62) (k:R (Itr 0 j.toNat) H):rng1K R [.int j] H:=⟨j,rfl,h1,h2,k⟩
theorem r_rng2K {R:It -> Hp -> Prop} (h1:-(2 ^ 62) <= i) (h2:i < 2 ^ 62) (h3:-(2 ^ 62) <= j) (h4:j < 2 ^ 62) (k:R (Itr i (j - i).toNat) H):rng2K R [.int i,.int j] H:=⟨i,j,rfl,⟨h1,h2,h3,h4⟩,k⟩
theorem r_forR {lo:Int} {n:Nat} {g:TG} {tb:TS} (Pv:Nat -> St -> Hp -> Prop) (h0:Pv 0 σ H)
    (hs:∀ i σ H,i < n -> Pv i σ H -> g (.int (lo + i)) σ H fun σ2 H2 => tb ⟨Pv (i + 1),D.rt,D.nx,Pv (i + 1)⟩ σ2 H2) (hd:∀ σ H,Pv n σ H -> D.nx σ H):forK g tb D σ (Itr lo n) H:=for_range Pv h0 hs hd
noncomputable def listK (K:PySem.W.Frag) (R:It -> Hp -> Prop):VK:=fun x H1 => ∃ a,x = .ref a /\ (∃ xs,SqL K H1 a xs) /\ R (Itl K a) H1
theorem r_iList {tl:TE} {R:It -> Hp -> Prop} (k:tl σ H (listK K R)):iList K tl σ H R:=k
theorem r_listK {a:Addr} {xs:List V} {R:It -> Hp -> Prop} (h:SqL K H a xs) (k:R (Itl K a) H):listK K R (.ref a) H:=⟨a,rfl,⟨xs,h⟩,k⟩
theorem r_forL {a:Addr} {xs:List V} {g:TG} {tb:TS} (Pv:Nat -> St -> Hp -> Prop) (h0:Pv 0 σ H) (hl:∀ i σ H,i <= xs.length -> Pv i σ H -> SqL K H a xs)
    (hs:∀ i x σ H,xs[i]? = some x -> Pv i σ H -> g x σ H fun σ2 H2 => tb ⟨Pv (i + 1),D.rt,D.nx,Pv (i + 1)⟩ σ2 H2) (hd:∀ σ H,Pv xs.length σ H -> D.nx σ H):forK g tb D σ (Itl K a) H:=for_list Pv h0 hl hs hd
end
end L2
namespace L2
open PySem
noncomputable def sg (t b:Int):Int:=if b < 0 then 0 - (Int.gcd t b:Int) else (Int.gcd t b:Int)
noncomputable def lowT (t b:Int):Int:=t.fdiv (sg t b)
noncomputable def lowB (t b:Int):Int:=b.fdiv (sg t b)
theorem gcd_pos {t b:Int} (h:b ≠ 0):0 < Int.gcd t b:=Nat.pos_of_ne_zero fun e => h (Int.gcd_eq_zero_iff.mp e).2
theorem sg_ne {t b:Int} (h:b ≠ 0):sg t b ≠ 0:=by
  have:=gcd_pos (t:=t) h
  unfold sg
  split <;> omega
theorem sg_dvd_l (t b:Int):sg t b ∣ t:=by
  unfold sg
  split
  . exact (Int.zero_sub _ ▸ Int.neg_dvd.mpr (Int.gcd_dvd_left ..))
  . exact Int.gcd_dvd_left ..
theorem sg_dvd_r (t b:Int):sg t b ∣ b:=by
  unfold sg
  split
  . exact (Int.zero_sub _ ▸ Int.neg_dvd.mpr (Int.gcd_dvd_right ..))
  . exact Int.gcd_dvd_right ..
theorem fdiv_of {a g:Int} (hg:g ≠ 0) (h:g ∣ a):a.fdiv g * g = a:=by
  obtain ⟨c,rfl⟩:=h
  rw [Int.mul_fdiv_cancel_left _ hg,Int.mul_comm]
theorem lowT_mul {t b:Int} (h:b ≠ 0):lowT t b * sg t b = t:=fdiv_of (sg_ne h) (sg_dvd_l t b)
theorem lowB_mul {t b:Int} (h:b ≠ 0):lowB t b * sg t b = b:=fdiv_of (sg_ne h) (sg_dvd_r t b)
theorem sg_natAbs (t b:Int):(sg t b).natAbs = Int.gcd t b:=by
  unfold sg
  split <;> omega
theorem lowB_pos {t b:Int} (h:b ≠ 0):0 < lowB t b:=by
  have e:=lowB_mul (t:=t) h
  have hp:=gcd_pos (t:=t) h
  by_cases hb:b < 0
  . have hs:sg t b < 0:=by unfold sg; rw [if_pos hb]; omega
    rcases Int.lt_or_le 0 (lowB t b) with q | q
    . exact q
    . have:0 <= lowB t b * sg t b:=Int.mul_nonneg_of_nonpos_of_nonpos q (Int.le_of_lt hs)
      omega
  . have hs:0 < sg t b:=by unfold sg; rw [if_neg hb]; omega
    rcases Int.lt_or_le 0 (lowB t b) with q | q
    . exact q
    . have:lowB t b * sg t b <= 0:=Int.mul_nonpos_of_nonpos_of_nonneg q (Int.le_of_lt hs)
      omega
theorem low_cop {t b:Int} (h:b ≠ 0):Int.gcd (lowT t b) (lowB t b) = 1:=by
  have e1:=lowT_mul (t:=t) h
  have e2:=lowB_mul (t:=t) h
  have hp:=gcd_pos (t:=t) h
  have e:Int.gcd (lowT t b * sg t b) (lowB t b * sg t b) = Int.gcd (lowT t b) (lowB t b) * (sg t b).natAbs:=Int.gcd_mul_right ..
  rw [e1,e2,sg_natAbs] at e
  have:1 * Int.gcd t b = Int.gcd (lowT t b) (lowB t b) * Int.gcd t b:=by omega
  exact (Nat.eq_of_mul_eq_mul_right hp this).symm
theorem low_cross {t b:Int} (h:b ≠ 0):t * lowB t b = b * lowT t b:=by
  have e1:=lowT_mul (t:=t) h
  have e2:=lowB_mul (t:=t) h
  calc t * lowB t b = (lowT t b * sg t b) * lowB t b:=by rw [e1]
    _ = (lowB t b * sg t b) * lowT t b:=by rw [Int.mul_assoc,Int.mul_comm (sg t b),← Int.mul_assoc,Int.mul_comm (lowT t b),Int.mul_assoc,Int.mul_comm (lowT t b),← Int.mul_assoc]
    _ = b * lowT t b:=by rw [e2]
theorem natAbs_le_of_mul {a g c:Int} (hg:g ≠ 0) (e:a * g = c):a.natAbs <= c.natAbs:=by
  rw [← e,Int.natAbs_mul]
  exact Nat.le_mul_of_pos_right _ (by omega)
theorem lowT_le {t b:Int} (h:b ≠ 0):(lowT t b).natAbs <= t.natAbs:=natAbs_le_of_mul (sg_ne h) (lowT_mul h)
theorem lowB_le {t b:Int} (h:b ≠ 0):(lowB t b).natAbs <= b.natAbs:=natAbs_le_of_mul (sg_ne h) (lowB_mul h)
theorem gcd_step {one other:Int} (h:0 < other):Int.gcd other (one % other) = Int.gcd one other:=by
  have e:one % other = one - (one / other) * other:=by rw [Int.emod_def,Int.mul_comm]
  rw [e,Int.gcd_comm other,Int.gcd_sub_mul_right_left]
theorem gcd_stepN {one other:Int} (h:other ≠ 0):Int.gcd other (one.fmod other) = Int.gcd one other:=by
  have e:one.fmod other = one - (one.fdiv other) * other:=by rw [Int.fmod_def,Int.mul_comm]
  rw [e,Int.gcd_comm other,Int.gcd_sub_mul_right_left]
theorem dvd_cop {k n m:Int} (h:k ∣ n * m) (g:Int.gcd k n = 1):k ∣ m:=by
  have q:=Int.dvd_gcd_mul_iff_dvd_mul.mpr h
  rw [g] at q
  simpa using q
theorem low_uniq {a b c d:Int} (hb:0 < b) (hd:0 < d) (h1:Int.gcd a b = 1) (h2:Int.gcd c d = 1) (e:a * d = c * b):a = c /\ b = d:=by
  have k1:b ∣ d:=by
    have:b ∣ a * d:=⟨c,by rw [e,Int.mul_comm]⟩
    exact dvd_cop this (by rw [Int.gcd_comm]; exact h1)
  have k2:d ∣ b:=by
    have:d ∣ c * b:=⟨a,by rw [← e,Int.mul_comm]⟩
    exact dvd_cop this (by rw [Int.gcd_comm]; exact h2)
  have eb:b = d:=by
    have:=Int.le_of_dvd hd k1
    have:=Int.le_of_dvd hb k2
    omega
  subst eb
  exact ⟨Int.eq_of_mul_eq_mul_right (by omega) e,rfl⟩
theorem pick {ns:List Int} {i:Int} (h0:0 <= i) (h1:i < ns.length):∃ z,z ∈ ns /\ atI (ns.map V.int) i = some (.int z):=by
  have hk:i.toNat < ns.length:=by omega
  have ek:i = ((i.toNat:Nat):Int):=by omega
  have q:atI (ns.map V.int) ((i.toNat:Nat):Int) = some (.int ns[i.toNat]):=atI_nat (by rw [List.getElem?_map,List.getElem?_eq_getElem hk] <;> rfl)
  rw [← ek] at q
  exact ⟨ns[i.toNat],List.getElem_mem hk,q⟩
theorem fdiv_nn {a b:Int} (ha:0 <= a) (hb:0 < b):0 <= a.fdiv b:=by
  rw [Int.fdiv_eq_ediv_of_nonneg _ (Int.le_of_lt hb)]
  exact Int.ediv_nonneg ha (Int.le_of_lt hb)
theorem r_modN {i j:Int} {H:Hp} {Q:VK} (h:j ≠ 0) (k:Q (.int (i.fmod j)) H):rI (fun _ j => j ≠ 0) (fun i j => .int (i.fmod j)) (.int i) (.int j) H Q:=r_I h k
theorem fmod_lt {a b:Int} (h:b ≠ 0):(a.fmod b).natAbs < b.natAbs:=by
  have e:=Int.fmod_eq_emod (a:=a) (b:=b)
  have h1:=Int.emod_nonneg a h
  have h2:=Int.emod_lt a h
  rw [e]
  by_cases hc:0 <= b ∨ b ∣ a
  . rw [if_pos hc]
    omega
  . rw [if_neg hc]
    have h3:a % b ≠ 0:=fun z => hc (.inr (Int.dvd_of_emod_eq_zero z))
    omega
noncomputable def frV:V -> V -> Bool
  | .int a,.int b => decide (1 <= b) && decide (Int.gcd a b = 1)
  | _,_ => false
theorem low_worth {t b:Int} (h:b ≠ 0):lowT t b * b = t * lowB t b:=by rw [low_cross h,Int.mul_comm]
theorem low_of {t b f g:Int} (hb:b ≠ 0) (hg:0 < g) (hc:Int.gcd f g = 1) (e:f * b = t * g):f = lowT t b /\ g = lowB t b:=by
  have e1:=low_worth (t:=t) hb
  have hp:=lowB_pos (t:=t) hb
  refine low_uniq hg hp hc (low_cop hb) ?_
  have:(f * lowB t b) * b = (lowT t b * g) * b:=by
    have a1:(f * lowB t b) * b = (f * b) * lowB t b:=by rw [Int.mul_assoc,Int.mul_comm (lowB t b),← Int.mul_assoc]
    have a2:(lowT t b * g) * b = (lowT t b * b) * g:=by rw [Int.mul_assoc,Int.mul_comm g,← Int.mul_assoc]
    rw [a1,a2,e,e1,Int.mul_assoc,Int.mul_comm g,← Int.mul_assoc]
  exact Int.eq_of_mul_eq_mul_right hb this
end L2
namespace L2
open PySem PySem.Spec PyProof.Rows
inductive Dt where
  | non | bl (b:Bool) | int (i:Int) | str (x:Str) | tup (xs:List Dt) | lst (xs:List Dt)
mutual
noncomputable def Den (H:Hp):Dt -> V -> Prop
  | .non,v => v = .non
  | .bl b,v => v = .bl b
  | .int i,v => v = .int i
  | .str x,v => v = .str x
  | .tup ds,v => ∃ p vs,v = .ref p /\ H p = some (.tup vs) /\ DenL H ds vs
  | .lst ds,v => ∃ p vs,v = .ref p /\ H p = some (.lst vs) /\ DenL H ds vs
noncomputable def DenL (H:Hp):List Dt -> List V -> Prop
  | [],vs => vs = []
  | d :: ds,vs => ∃ v r,vs = v :: r /\ Den H d v /\ DenL H ds r
end
mutual
noncomputable def deq:Dt -> Dt -> Bool
  | .non,.non => true
  | .bl a,.bl b => a == b
  | .bl a,.int b => (if a then 1 else 0) == b
  | .int a,.bl b => a == (if b then 1 else 0)
  | .int a,.int b => a == b
  | .str a,.str b => a == b
  | .tup xs,.tup ys => deqL xs ys
  | .lst xs,.lst ys => deqL xs ys
  | _,_ => false
noncomputable def deqL:List Dt -> List Dt -> Bool
  | [],[] => true
  | x :: xs,y :: ys => deq x y && deqL xs ys
  | _,_ => false
end
mutual
noncomputable def dep:Dt -> Nat
  | .tup xs => depL xs + 1
  | .lst xs => depL xs + 1
  | _ => 0
noncomputable def depL:List Dt -> Nat
  | [] => 0
  | x :: xs => max (dep x) (depL xs)
end
theorem DenL.length {H:Hp}:∀ {ds:List Dt} {vs:List V},DenL H ds vs -> ds.length = vs.length
  | [],vs,h => by rw [show vs = [] from h]; rfl
  | d :: ds,vs,h => by
    obtain ⟨v,r,rfl,_,t⟩:=h
    rw [List.length_cons,List.length_cons,DenL.length t]
mutual
theorem Den.same_eq {H:Hp}:∀ (d e:Dt) {x:V},Den H d x -> Den H e x -> deq d e = true
  | .tup ds,.tup es,x,h1,h2 => by
    obtain ⟨p,vs,rfl,a,b⟩:=h1
    obtain ⟨q,ws,e1,c,d⟩:=h2
    cases e1
    rw [a] at c
    cases c
    exact DenL.same_eq ds es b d
  | .lst ds,.lst es,x,h1,h2 => by
    obtain ⟨p,vs,rfl,a,b⟩:=h1
    obtain ⟨q,ws,e1,c,d⟩:=h2
    cases e1
    rw [a] at c
    cases c
    exact DenL.same_eq ds es b d
  | .tup ds,.lst es,x,h1,h2 => by
    obtain ⟨p,vs,rfl,a,b⟩:=h1
    obtain ⟨q,ws,e1,c,d⟩:=h2
    cases e1
    rw [a] at c
    cases c
  | .lst ds,.tup es,x,h1,h2 => by
    obtain ⟨p,vs,rfl,a,b⟩:=h1
    obtain ⟨q,ws,e1,c,d⟩:=h2
    cases e1
    rw [a] at c
    cases c
  | .non,e,x,h1,h2 => by
    have h1:x = .non:=h1
    subst h1
    cases e <;> first | rfl | (have h2:V.non = _:=h2; cases h2) | (obtain ⟨_,_,z,_⟩:=h2; cases z)
  | .bl b,e,x,h1,h2 => by
    have h1:x = .bl b:=h1
    subst h1
    cases e <;> first | (have h2:V.bl b = _:=h2; cases h2; exact beq_self_eq_true b) | (have h2:V.bl b = _:=h2; cases h2; done) | (obtain ⟨_,_,z,_⟩:=h2; cases z)
  | .int b,e,x,h1,h2 => by
    have h1:x = .int b:=h1
    subst h1
    cases e <;> first | (have h2:V.int b = _:=h2; cases h2; exact beq_self_eq_true b) | (have h2:V.int b = _:=h2; cases h2; done) | (obtain ⟨_,_,z,_⟩:=h2; cases z)
  | .str b,e,x,h1,h2 => by
    have h1:x = .str b:=h1
    subst h1
    cases e <;> first | (have h2:V.str b = _:=h2; cases h2; exact beq_self_eq_true b) | (have h2:V.str b = _:=h2; cases h2; done) | (obtain ⟨_,_,z,_⟩:=h2; cases z)
  | .tup ds,.non,x,h1,h2 => by obtain ⟨p,vs,rfl,_⟩:=h1; have h2:V.ref p = _:=h2; cases h2
  | .tup ds,.bl _,x,h1,h2 => by obtain ⟨p,vs,rfl,_⟩:=h1; have h2:V.ref p = _:=h2; cases h2
  | .tup ds,.int _,x,h1,h2 => by obtain ⟨p,vs,rfl,_⟩:=h1; have h2:V.ref p = _:=h2; cases h2
  | .tup ds,.str _,x,h1,h2 => by obtain ⟨p,vs,rfl,_⟩:=h1; have h2:V.ref p = _:=h2; cases h2
  | .lst ds,.non,x,h1,h2 => by obtain ⟨p,vs,rfl,_⟩:=h1; have h2:V.ref p = _:=h2; cases h2
  | .lst ds,.bl _,x,h1,h2 => by obtain ⟨p,vs,rfl,_⟩:=h1; have h2:V.ref p = _:=h2; cases h2
  | .lst ds,.int _,x,h1,h2 => by obtain ⟨p,vs,rfl,_⟩:=h1; have h2:V.ref p = _:=h2; cases h2
  | .lst ds,.str _,x,h1,h2 => by obtain ⟨p,vs,rfl,_⟩:=h1; have h2:V.ref p = _:=h2; cases h2
theorem DenL.same_eq {H:Hp}:∀ (ds es:List Dt) {xs:List V},DenL H ds xs -> DenL H es xs -> deqL ds es = true
  | [],[],xs,_,_ => rfl
  | [],e :: es,xs,h1,h2 => by
    have h1:xs = []:=h1
    subst h1
    obtain ⟨_,_,z,_⟩:=h2
    cases z
  | d :: ds,[],xs,h1,h2 => by
    have h2:xs = []:=h2
    subst h2
    obtain ⟨_,_,z,_⟩:=h1
    cases z
  | d :: ds,e :: es,xs,h1,h2 => by
    obtain ⟨v,r,rfl,a,b⟩:=h1
    obtain ⟨v',r',z,a',b'⟩:=h2
    cases z
    show (deq d e && deqL ds es) = true
    rw [Den.same_eq d e a a',DenL.same_eq ds es b b']
    rfl
end
noncomputable def nth (ds es:List Dt) (j:Nat):Bool:=match ds[j]?,es[j]? with
  | some d,some e => deq d e
  | _,_ => false
theorem deqL_all:∀ (ds es:List Dt),((List.range (min ds.length es.length)).all (nth ds es) && ds.length == es.length) = deqL ds es
  | [],[] => rfl
  | [],e :: es => by show (_ && (0 == es.length + 1)) = false; simp
  | d :: ds,[] => by show (_ && (ds.length + 1 == 0)) = false; simp
  | d :: ds,e :: es => by
    have ih:=deqL_all ds es
    show _ = (deq d e && deqL ds es)
    rw [← ih]
    have h1:min (d :: ds).length (e :: es).length = min ds.length es.length + 1:=by simp only [List.length_cons]; omega
    rw [h1,List.range_succ_eq_map,List.all_cons,List.all_map]
    have h2:(nth (d :: ds) (e :: es)) ∘ Nat.succ = nth ds es:=by funext j; rfl
    rw [h2]
    have h3:nth (d :: ds) (e :: es) 0 = deq d e:=rfl
    rw [h3]
    have h4:((d :: ds).length == (e :: es).length) = (ds.length == es.length):=by simp
    rw [h4,Bool.and_assoc]
section
variable {X:Cx} {pins:List (Addr×Obj)} {σ:St} {H:Hp} {s:Shared}
theorem tup_at (I:Inv X pins σ H s) {p:Addr} {vs:List V} (h:H p = some (.tup vs)):∃ its:List Value,Vals vs its /\ s.heap.IsTuple p its.toArray:=by
  obtain ⟨_,its,r,q⟩:=(show ObjOk X.prog X.w H s.heap p (.tup vs) from I.hok p _ h)
  exact ⟨its,r,q⟩
theorem lst_at (I:Inv X pins σ H s) {p:Addr} {vs:List V} (h:H p = some (.lst vs)):∃ its:List Value,Vals vs its /\ s.heap.IsList p its.toArray:=by
  obtain ⟨_,its,n,r,q⟩:=(show ObjOk X.prog X.w H s.heap p (.lst vs) from I.hok p _ h)
  exact ⟨its,r,_,q,rfl,_,rfl⟩
theorem in1_tup {A:Around} {ds:List Dt} (h:A.units + dep (.tup ds) < cLine):A.in1.units + depL ds < cLine:=by
  have e:dep (.tup ds) = depL ds + 1:=by simp [dep]
  show A.units + 1 + depL ds < cLine
  omega
theorem in1_lst {A:Around} {ds:List Dt} (h:A.units + dep (.lst ds) < cLine):A.in1.units + depL ds < cLine:=by
  have e:dep (.lst ds) = depL ds + 1:=by simp [dep]
  show A.units + 1 + depL ds < cLine
  omega
mutual
theorem eqAt_D (I:Inv X pins σ H s):∀ (d e:Dt) {x y:V} {u v:Value} {A:Around},Den H d x -> Den H e y -> RelV x u -> RelV y v -> A.units + dep d < cLine -> SeqAt.EqAt A s u v (deq d e)
  | .tup ds,e,x,y,u,v,A,h1,h2,rx,ry,hu => by
    obtain ⟨p,vs,rfl,a,b⟩:=h1
    cases rx
    obtain ⟨its,r,t⟩:=tup_at I a
    have hu':A.units < cLine:=by omega
    cases e with
    | tup es =>
      obtain ⟨q,ws,rfl,a',b'⟩:=id h2
      cases ry
      by_cases hne:p = q
      . subst hne
        have:=Den.same_eq (.tup ds) (.tup es) (x:=.ref p) ⟨p,vs,rfl,a,b⟩ h2
        rw [this]
        exact SeqAt.EqAt.same _
      . obtain ⟨its',r',t'⟩:=tup_at I a'
        have z:=SeqAt.RcAt.tuples (e:=nth ds es) t t' hu' (fun j g1 g2 => eqAt_L I ds es b b' r r' (in1_tup hu) j (by simpa using g1) (by simpa using g2))
        have l1:its.length = ds.length:=by rw [b.length,r.length]
        have l2:its'.length = es.length:=by rw [b'.length,r'.length]
        rw [List.size_toArray,List.size_toArray,l1,l2,deqL_all] at z
        exact SeqAt.EqAt.of_refs hne z
    | lst es =>
      obtain ⟨q,ws,rfl,a',b'⟩:=id h2
      cases ry
      obtain ⟨its',r',t'⟩:=lst_at I a'
      exact SeqAt.EqAt.tuple_list t t' hu'
    | non => cases (show y = .non from h2); cases ry; exact SeqAt.EqAt.tuple_none t hu'
    | bl b => cases (show y = .bl b from h2); cases ry; exact SeqAt.EqAt.tuple_bool b t hu'
    | int b => cases (show y = .int b from h2); obtain ⟨tk,rfl⟩:=ry; exact SeqAt.EqAt.tuple_int b tk t hu'
    | str b => cases (show y = .str b from h2); obtain ⟨tk,rfl⟩:=ry; exact SeqAt.EqAt.tuple_str b tk t hu'
  | .lst ds,e,x,y,u,v,A,h1,h2,rx,ry,hu => by
    obtain ⟨p,vs,rfl,a,b⟩:=h1
    cases rx
    obtain ⟨its,r,t⟩:=lst_at I a
    have hu':A.units < cLine:=by omega
    cases e with
    | lst es =>
      obtain ⟨q,ws,rfl,a',b'⟩:=id h2
      cases ry
      by_cases hne:p = q
      . subst hne
        have:=Den.same_eq (.lst ds) (.lst es) (x:=.ref p) ⟨p,vs,rfl,a,b⟩ h2
        rw [this]
        exact SeqAt.EqAt.same _
      . obtain ⟨its',r',t'⟩:=lst_at I a'
        have l1:its.length = ds.length:=by rw [b.length,r.length]
        have l2:its'.length = es.length:=by rw [b'.length,r'.length]
        by_cases hl:ds.length = es.length
        . have z:=SeqAt.RcAt.lists (e:=nth ds es) t t' (by rw [List.size_toArray,List.size_toArray,l1,l2,hl]) hu' (fun j g1 g2 => eqAt_L I ds es b b' r r' (in1_lst hu) j (by simpa using g1) (by simpa using g2))
          have e1:=deqL_all ds es
          rw [hl,Nat.min_self,beq_self_eq_true,Bool.and_true] at e1
          rw [List.size_toArray,l1,hl,e1] at z
          exact SeqAt.EqAt.of_refs hne z
        . have z:=SeqAt.RcAt.lists_lengths t t' (by rw [List.size_toArray,List.size_toArray,l1,l2]; simpa using hl) hu'
          have e1:=deqL_all ds es
          rw [show (ds.length == es.length) = false from by simpa using hl,Bool.and_false] at e1
          have e2:deq (.lst ds) (.lst es) = false:=by show deqL ds es = false; exact e1.symm
          rw [e2]
          exact SeqAt.EqAt.of_refs hne z
    | tup es =>
      obtain ⟨q,ws,rfl,a',b'⟩:=id h2
      cases ry
      obtain ⟨its',r',t'⟩:=tup_at I a'
      exact SeqAt.EqAt.list_tuple t t' hu'
    | non => cases (show y = .non from h2); cases ry; exact SeqAt.EqAt.list_none t hu'
    | bl b => cases (show y = .bl b from h2); cases ry; exact SeqAt.EqAt.list_bool b t hu'
    | int b => cases (show y = .int b from h2); obtain ⟨tk,rfl⟩:=ry; exact SeqAt.EqAt.list_int b tk t hu'
    | str b => cases (show y = .str b from h2); obtain ⟨tk,rfl⟩:=ry; exact SeqAt.EqAt.list_str b tk t hu'
  | .non,e,x,y,u,v,A,h1,h2,rx,ry,hu => by
    cases (show x = .non from h1); cases rx
    have hu':A.units < cLine:=by omega
    cases e with
    | tup es => obtain ⟨q,ws,rfl,a',b'⟩:=id h2; cases ry; obtain ⟨its',r',t'⟩:=tup_at I a'; exact SeqAt.EqAt.none_tuple t' hu'
    | lst es => obtain ⟨q,ws,rfl,a',b'⟩:=id h2; cases ry; obtain ⟨its',r',t'⟩:=lst_at I a'; exact SeqAt.EqAt.none_list t' hu'
    | non => cases (show y = .non from h2); cases ry; exact SeqAt.EqAt.same _
    | bl b => cases (show y = .bl b from h2); cases ry; exact SeqAt.EqAt.none_bool b
    | int b => cases (show y = .int b from h2); obtain ⟨tk,rfl⟩:=ry; exact SeqAt.EqAt.none_int b tk
    | str b => cases (show y = .str b from h2); obtain ⟨tk,rfl⟩:=ry; exact SeqAt.EqAt.none_str b tk
  | .bl c,e,x,y,u,v,A,h1,h2,rx,ry,hu => by
    cases (show x = .bl c from h1); cases rx
    have hu':A.units < cLine:=by omega
    cases e with
    | tup es => obtain ⟨q,ws,rfl,a',b'⟩:=id h2; cases ry; obtain ⟨its',r',t'⟩:=tup_at I a'; exact SeqAt.EqAt.bool_tuple c t' hu'
    | lst es => obtain ⟨q,ws,rfl,a',b'⟩:=id h2; cases ry; obtain ⟨its',r',t'⟩:=lst_at I a'; exact SeqAt.EqAt.bool_list c t' hu'
    | non => cases (show y = .non from h2); cases ry; exact SeqAt.EqAt.bool_none c
    | bl b => cases (show y = .bl b from h2); cases ry; exact SeqAt.EqAt.bool_bool c b
    | int b => cases (show y = .int b from h2); obtain ⟨tk,rfl⟩:=ry; exact SeqAt.EqAt.bool_int c b tk
    | str b => cases (show y = .str b from h2); obtain ⟨tk,rfl⟩:=ry; exact SeqAt.EqAt.bool_str c b tk
  | .int c,e,x,y,u,v,A,h1,h2,rx,ry,hu => by
    cases (show x = .int c from h1); obtain ⟨tc,rfl⟩:=rx
    have hu':A.units < cLine:=by omega
    cases e with
    | tup es => obtain ⟨q,ws,rfl,a',b'⟩:=id h2; cases ry; obtain ⟨its',r',t'⟩:=tup_at I a'; exact SeqAt.EqAt.int_tuple c tc t' hu'
    | lst es => obtain ⟨q,ws,rfl,a',b'⟩:=id h2; cases ry; obtain ⟨its',r',t'⟩:=lst_at I a'; exact SeqAt.EqAt.int_list c tc t' hu'
    | non => cases (show y = .non from h2); cases ry; exact SeqAt.EqAt.int_none c tc
    | bl b => cases (show y = .bl b from h2); cases ry; exact SeqAt.EqAt.int_bool c tc b
    | int b => cases (show y = .int b from h2); obtain ⟨tk,rfl⟩:=ry; exact SeqAt.EqAt.int_int c tc b tk
    | str b => cases (show y = .str b from h2); obtain ⟨tk,rfl⟩:=ry; exact SeqAt.EqAt.int_str c tc b tk
  | .str c,e,x,y,u,v,A,h1,h2,rx,ry,hu => by
    cases (show x = .str c from h1); obtain ⟨tc,rfl⟩:=rx
    have hu':A.units < cLine:=by omega
    cases e with
    | tup es => obtain ⟨q,ws,rfl,a',b'⟩:=id h2; cases ry; obtain ⟨its',r',t'⟩:=tup_at I a'; exact SeqAt.EqAt.str_tuple c tc t' hu'
    | lst es => obtain ⟨q,ws,rfl,a',b'⟩:=id h2; cases ry; obtain ⟨its',r',t'⟩:=lst_at I a'; exact SeqAt.EqAt.str_list c tc t' hu'
    | non => cases (show y = .non from h2); cases ry; exact SeqAt.EqAt.str_none c tc
    | bl b => cases (show y = .bl b from h2); cases ry; exact SeqAt.EqAt.str_bool c tc b
    | int b => cases (show y = .int b from h2); obtain ⟨tk,rfl⟩:=ry; exact SeqAt.EqAt.str_int c tc b tk
    | str b => cases (show y = .str b from h2); obtain ⟨tk,rfl⟩:=ry; exact SeqAt.EqAt.str_str c tc b tk
theorem eqAt_L (I:Inv X pins σ H s):∀ (ds es:List Dt) {xs ys:List V} {us vs:List Value} {A:Around},DenL H ds xs -> DenL H es ys -> Vals xs us -> Vals ys vs -> A.units + depL ds < cLine ->
    ∀ (j:Nat) (g1:j < us.length) (g2:j < vs.length),SeqAt.EqAt A s us[j] vs[j] (nth ds es j)
  | [],es,xs,ys,us,vs,A,h1,h2,r1,r2,hu => fun j g1 g2 => by
    have h1:xs = []:=h1
    subst h1
    cases r1
    exact absurd g1 (Nat.not_lt_zero _)
  | d :: ds,[],xs,ys,us,vs,A,h1,h2,r1,r2,hu => fun j g1 g2 => by
    have h2:ys = []:=h2
    subst h2
    cases r2
    exact absurd g2 (Nat.not_lt_zero _)
  | d :: ds,e :: es,xs,ys,us,vs,A,h1,h2,r1,r2,hu => fun j g1 g2 => by
    obtain ⟨x,xr,rfl,a,b⟩:=h1
    obtain ⟨y,yr,rfl,a',b'⟩:=h2
    cases r1 with
    | cons rx r1 =>
      cases r2 with
      | cons ry r2 =>
        have hd:depL (d :: ds) = max (dep d) (depL ds):=by simp [depL]
        cases j with
        | zero => exact eqAt_D I d e a a' rx ry (by omega)
        | succ j => exact eqAt_L I ds es b b' r1 r2 (by omega) j (by simpa using g1) (by simpa using g2)
end
noncomputable def rEqD:R2:=fun x y H Q => ∃ d e,Den H d x /\ Den H e y /\ dep d <= 60 /\ ((∃ ds es,d = .tup ds /\ e = .tup es) ∨ ∃ ds es,d = .lst ds /\ e = .lst es) /\ Q (.bl (deq d e)) H
noncomputable def rNeD:R2:=fun x y H Q => ∃ d e,Den H d x /\ Den H e y /\ dep d <= 60 /\ ((∃ ds es,d = .tup ds /\ e = .tup es) ∨ ∃ ds es,d = .lst ds /\ e = .lst es) /\ Q (.bl (!deq d e)) H
theorem op_eqD (hu:X.A.units + 64 < cLine):OpR X (compareOp .Eq) rEqD:=by
  intro pins s σ H x y v u Q I rx ry h
  obtain ⟨d,e,h1,h2,hd,k,q⟩:=h
  rcases k with ⟨ds,es,rfl,rfl⟩ | ⟨ds,es,rfl,rfl⟩
  . obtain ⟨p,vs,rfl,a,b⟩:=h1
    obtain ⟨p',ws,rfl,a',b'⟩:=h2
    cases rx
    cases ry
    obtain ⟨its,r,t⟩:=tup_at I a
    obtain ⟨its',r',t'⟩:=tup_at I a'
    have z:=SeqAt.RcAt.tuples (A:=X.A) (e:=nth ds es) t t' (by omega) (fun j g1 g2 => eqAt_L I ds es b b' r r' (in1_tup (by omega)) j (by simpa using g1) (by simpa using g2))
    have l1:its.length = ds.length:=by rw [b.length,r.length]
    have l2:its'.length = es.length:=by rw [b'.length,r'.length]
    rw [List.size_toArray,List.size_toArray,l1,l2,deqL_all] at z
    exact z _ _ _ _ ⟨.bl _,H,I,rfl,q⟩
  . obtain ⟨p,vs,rfl,a,b⟩:=h1
    obtain ⟨p',ws,rfl,a',b'⟩:=h2
    cases rx
    cases ry
    obtain ⟨its,r,t⟩:=lst_at I a
    obtain ⟨its',r',t'⟩:=lst_at I a'
    have l1:its.length = ds.length:=by rw [b.length,r.length]
    have l2:its'.length = es.length:=by rw [b'.length,r'.length]
    by_cases hl:ds.length = es.length
    . have z:=SeqAt.RcAt.lists (A:=X.A) (e:=nth ds es) t t' (by rw [List.size_toArray,List.size_toArray,l1,l2,hl]) (by omega) (fun j g1 g2 => eqAt_L I ds es b b' r r' (in1_lst (by omega)) j (by simpa using g1) (by simpa using g2))
      have e1:=deqL_all ds es
      rw [hl,Nat.min_self,beq_self_eq_true,Bool.and_true] at e1
      rw [List.size_toArray,l1,hl,e1] at z
      exact z _ _ _ _ ⟨.bl _,H,I,rfl,q⟩
    . have z:=SeqAt.RcAt.lists_lengths (A:=X.A) t t' (by rw [List.size_toArray,List.size_toArray,l1,l2]; simpa using hl) (by omega)
      have e1:=deqL_all ds es
      rw [show (ds.length == es.length) = false from by simpa using hl,Bool.and_false] at e1
      have e2:deq (.lst ds) (.lst es) = false:=by show deqL ds es = false; exact e1.symm
      rw [e2] at q
      exact z _ _ _ _ ⟨.bl _,H,I,rfl,q⟩
theorem op_neD (hu:X.A.units + 64 < cLine):OpR X (compareOp .NotEq) rNeD:=by
  intro pins s σ H x y v u Q I rx ry h
  obtain ⟨d,e,h1,h2,hd,k,q⟩:=h
  rcases k with ⟨ds,es,rfl,rfl⟩ | ⟨ds,es,rfl,rfl⟩
  . obtain ⟨p,vs,rfl,a,b⟩:=h1
    obtain ⟨p',ws,rfl,a',b'⟩:=h2
    cases rx
    cases ry
    obtain ⟨its,r,t⟩:=tup_at I a
    obtain ⟨its',r',t'⟩:=tup_at I a'
    have z:=SeqAt.RcNeAt.tuples (A:=X.A) (e:=nth ds es) t t' (by omega) (fun j g1 g2 => eqAt_L I ds es b b' r r' (in1_tup (by omega)) j (by simpa using g1) (by simpa using g2))
    have l1:its.length = ds.length:=by rw [b.length,r.length]
    have l2:its'.length = es.length:=by rw [b'.length,r'.length]
    rw [List.size_toArray,List.size_toArray,l1,l2,deqL_all] at z
    exact z _ _ _ _ ⟨.bl _,H,I,rfl,q⟩
  . obtain ⟨p,vs,rfl,a,b⟩:=h1
    obtain ⟨p',ws,rfl,a',b'⟩:=h2
    cases rx
    cases ry
    obtain ⟨its,r,t⟩:=lst_at I a
    obtain ⟨its',r',t'⟩:=lst_at I a'
    have l1:its.length = ds.length:=by rw [b.length,r.length]
    have l2:its'.length = es.length:=by rw [b'.length,r'.length]
    by_cases hl:ds.length = es.length
    . have z:=SeqAt.RcNeAt.lists (A:=X.A) (e:=nth ds es) t t' (by rw [List.size_toArray,List.size_toArray,l1,l2,hl]) (by omega) (fun j g1 g2 => eqAt_L I ds es b b' r r' (in1_lst (by omega)) j (by simpa using g1) (by simpa using g2))
      have e1:=deqL_all ds es
      rw [hl,Nat.min_self,beq_self_eq_true,Bool.and_true] at e1
      rw [List.size_toArray,l1,hl,e1] at z
      exact z _ _ _ _ ⟨.bl _,H,I,rfl,q⟩
    . have z:=SeqAt.RcNeAt.lists_lengths (A:=X.A) t t' (by rw [List.size_toArray,List.size_toArray,l1,l2]; simpa using hl) (by omega)
      have e1:=deqL_all ds es
      rw [show (ds.length == es.length) = false from by simpa using hl,Bool.and_false] at e1
      have e2:deq (.lst ds) (.lst es) = false:=by show deqL ds es = false; exact e1.symm
      rw [e2] at q
      exact z _ _ _ _ ⟨.bl _,H,I,rfl,q⟩
noncomputable def rEqA:R2:=fun x y H Q => rEq x y H Q ∨ rEqD x y H Q
noncomputable def rNeA:R2:=fun x y H Q => rNe x y H Q ∨ rNeD x y H Q
theorem op_eqA (hu:X.A.units + 64 < cLine):OpR X (compareOp .Eq) rEqA:=op_eq.or (op_eqD hu)
theorem op_neA (hu:X.A.units + 64 < cLine):OpR X (compareOp .NotEq) rNeA:=op_ne.or (op_neD hu)
end
section
variable {H:Hp} {Q:VK} {i j:Int} {b c:Bool} {x y:Str} {u v:V}
theorem e_int (k:Q (.bl (decide (i = j))) H):rEqA (.int i) (.int j) H Q:=.inl (r_eqI k)
theorem n_int (k:Q (.bl (!decide (i = j))) H):rNeA (.int i) (.int j) H Q:=.inl (r_neI k)
theorem e_str (k:Q (.bl (x == y)) H):rEqA (.str x) (.str y) H Q:=.inl ⟨rfl,by rw [dec_str]; exact k⟩
theorem n_str (k:Q (.bl (!(x == y))) H):rNeA (.str x) (.str y) H Q:=.inl ⟨rfl,by rw [dec_str]; exact k⟩
theorem e_lst {ds es:List Dt} (h1:Den H (.lst ds) u) (h2:Den H (.lst es) v) (hd:depL ds <= 50) (k:Q (.bl (deqL ds es)) H):rEqA u v H Q :=
  .inr ⟨_,_,h1,h2,by simp [dep]; omega,.inr ⟨_,_,rfl,rfl⟩,k⟩
theorem n_lst {ds es:List Dt} (h1:Den H (.lst ds) u) (h2:Den H (.lst es) v) (hd:depL ds <= 50) (k:Q (.bl (!deqL ds es)) H):rNeA u v H Q :=
  .inr ⟨_,_,h1,h2,by simp [dep]; omega,.inr ⟨_,_,rfl,rfl⟩,k⟩
theorem den2 {p:Addr} {a b:Int} (h:H p = some (.tup [.int a,.int b])):Den H (.tup [.int a,.int b]) (.ref p):=⟨p,_,rfl,h,_,_,rfl,rfl,_,_,rfl,rfl,rfl⟩
end
end L2
namespace L2
open PySem PySem.Spec PyProof.Rows
section
variable {X:Cx} {K:PySem.W.Frag} {H H':Hp} {Q:VK} {i j:Int} {σ:St}
noncomputable def rAddS:R2:=fun x y H Q => ∃ i j,x = .str i /\ y = .str j /\ i.length + j.length <= sizeLine /\ Q (.str (i ++ j)) H
theorem op_addS:OpR X (binaryOp .Add) rAddS:=op_add_str
noncomputable def rAddA (K:PySem.W.Frag):R2:=fun x y H Q => rI0 (fun i j => .int (i + j)) x y H Q ∨ rCat x y H Q ∨ rCatT K x y H Q ∨ rAddS x y H Q
theorem op_addA:OpR X (binaryOp .Add) (rAddA X.K):=op_add.or (op_cat.or (op_catT.or op_addS))
theorem a_int (k:Q (.int (i + j)) H):rAddA K (.int i) (.int j) H Q:=.inl (r_I0 k)
theorem a_lst {p q:Addr} {xs ys:List V} (h1:H p = some (.lst xs)) (h2:H q = some (.lst ys)) (hl:xs.length + ys.length <= 1000) (k:∀ l,H l = none -> Q (.ref l) (upd H l (.lst (xs ++ ys)))):rAddA K (.ref p) (.ref q) H Q :=
  .inr (.inl ⟨p,q,xs,ys,rfl,rfl,h1,h2,le_line hl,k⟩)
noncomputable def rListOf (K:PySem.W.Frag):List V -> Hp -> VK -> Prop:=fun xs H Q => ∃ p ys,xs = [.ref p] /\ (SqL K H p ys ∨ SqT K H p ys) /\ ∀ l,H l = none -> Q (.ref l) (upd H l (.lst ys))
theorem c_list:CallR X (.type "list") (rListOf X.K):=call_list_of
theorem l_lst {p:Addr} {xs:List V} (h:H p = some (.lst xs)) (k:∀ l,H l = none -> Q (.ref l) (upd H l (.lst xs))):rListOf K [.ref p] H Q:=⟨p,xs,rfl,.inl (SqL.of h),k⟩
noncomputable def rSlA (K:PySem.W.Frag):V -> Option Int -> Option Int -> Hp -> VK -> Prop:=fun x lo hi H Q => rSlL K x lo hi H Q ∨ rSlT K x lo hi H Q
theorem sl_any:SlR X (rSlA X.K):=sl_list.or sl_tup
noncomputable def partK (R:Option Int -> Hp -> Prop):VK:=fun x H1 => ∃ i,x = .int i /\ R (some i) H1
theorem r_part {t:TE} {R:Option Int -> Hp -> Prop} (k:t σ H (partK R)):tPart t σ H R:=k
theorem r_partK {R:Option Int -> Hp -> Prop} (k:R (some i) H):partK R (.int i) H:=⟨i,rfl,k⟩
theorem r_nopart {R:Option Int -> Hp -> Prop} (k:R none H):tNoPart σ H R:=k
theorem r_sl {r:V -> Option Int -> Option Int -> Hp -> VK -> Prop} {te:TE} {tl th:TO} (k:te σ H fun x H1 => tl σ H1 fun l H2 => th σ H2 fun u H3 => r x l u H3 Q):tSl r te tl th σ H Q:=k
theorem s_lst {p:Addr} {xs:List V} {lo hi:Option Int} (h:H p = some (.lst xs)) (k:∀ l,H l = none -> Q (.ref l) (upd H l (.lst (cutV xs lo hi)))):rSlA K (.ref p) lo hi H Q:=.inl ⟨p,xs,rfl,SqL.of h,k⟩
theorem upd_old {H:Hp} {q b:Addr} {o u:HO} (hq:H q = none) (h:H b = some u):upd H q o b = some u:=by rw [upd_ne (ne_of_none h hq)]; exact h
theorem pickV {xs:List V} {i:Int} (h0:0 <= i) (h1:i < xs.length):∃ z,z ∈ xs /\ atI xs i = some z:=by
  have hk:i.toNat < xs.length:=by omega
  have ek:i = ((i.toNat:Nat):Int):=by omega
  have q:atI xs ((i.toNat:Nat):Int) = some xs[i.toNat]:=atI_nat (List.getElem?_eq_getElem hk)
  rw [← ek] at q
  exact ⟨xs[i.toNat],List.getElem_mem hk,q⟩
noncomputable def isI:V -> Bool
  | .int _ => true
  | _ => false
theorem flat_ty {v:V} (h:flatV v = true):∃ t b c,TyOf K H v t /\ PySem.W.kitOne K t (.type "int") = some b /\ PySem.W.kitOne K t (.type "bool") = some c /\ (b && !c) = isI v:=by
  cases v with
  | non => exact ⟨_,_,_,.non,kit_NoneType_int,kit_NoneType_bool,rfl⟩
  | bl b => exact ⟨_,_,_,.bl b,kit_bool_int,kit_bool_bool,rfl⟩
  | int b => exact ⟨_,_,_,.int b,kit_int_int,kit_int_bool,rfl⟩
  | str b => exact ⟨_,_,_,.str b,kit_str_int,kit_str_bool,rfl⟩
  | _ => exact absurd (show false = true from h) Bool.false_ne_true
noncomputable def NT (K:PySem.W.Frag) (H:Hp) (x:V):Prop:=∃ t,TyOf K H x t /\ PySem.W.kitOne K t (.type "tuple") = some false
theorem NT.int (i:Int):NT K H (.int i):=⟨_,.int i,kit_int_tuple⟩
theorem NT.non:NT K H .non:=⟨_,.non,kit_NoneType_tuple⟩
theorem NT.str (x:Str):NT K H (.str x):=⟨_,.str x,kit_str_tuple⟩
theorem NT.lst {p:Addr} {xs:List V} (h:H p = some (.lst xs)):NT K H (.ref p):=⟨_,.lst h,kit_list_tuple⟩
noncomputable def Frq (K:PySem.W.Frag) (H:Hp) (x:V) (r:Bool):Prop :=
  (NT K H x /\ r = false) ∨ (∃ p xs,x = .ref p /\ H p = some (.tup xs) /\ xs.length ≠ 2 /\ r = false) ∨
    ∃ p v w,x = .ref p /\ H p = some (.tup [v,w]) /\ flatV v = true /\ flatV w = true /\ (∀ a b,v = .int a -> w = .int b -> Sm 8000 a /\ Sm 8000 b) /\ r = frV v w
end
end L2
namespace L2
open PySem PySem.Spec PyProof.Rows
noncomputable def cxComp (X:Cx) (scope:Scope) (cl:List (Str×Addr)) (N:List Str) (C:Addr) (s0:Shared) (H0:Hp) (ex:List Addr):Cx :=
  { X with N:=N,s₀:=s0,H₀:=H0,env:=compEnvC scope cl C X.env,outer:=X.stack,stack:=X.stack,ex:=ex,fn:=fun _ => false,pn:=[],xe:=fun _ _ => False }
noncomputable def capsOf (env:Env) (names:List Str):List (Str×Addr):=names.filterMap fun n => (env.cells.lookup n).map fun c => (n,c)
theorem capsOf_sub {env:Env}:∀ {names:List Str} {x:Str} {c:Addr},(capsOf env names).lookup x = some c -> env.cells.lookup x = some c
  | [],x,c,h => by simp [capsOf] at h
  | n :: r,x,c,h => by
    unfold capsOf at h
    rw [List.filterMap_cons] at h
    cases e:env.cells.lookup n with
    | none =>
      rw [e] at h
      exact capsOf_sub (names:=r) h
    | some d =>
      rw [e] at h
      have h':List.lookup x ((n,d) :: capsOf env r) = some c:=h
      rw [List.lookup_cons] at h'
      by_cases hx:x = n
      . subst hx
        rw [beq_self_eq_true] at h'
        cases h'
        exact e
      . rw [beq_eq_false_iff_ne.mpr hx] at h'
        exact capsOf_sub (names:=r) h'
theorem capsOf_has {env:Env}:∀ {names:List Str} {x:Str} {c:Addr},x ∈ names -> env.cells.lookup x = some c -> (capsOf env names).lookup x = some c
  | [],x,c,h,_ => by cases h
  | n :: r,x,c,h,e => by
    unfold capsOf
    rw [List.filterMap_cons]
    by_cases hx:x = n
    . subst hx
      rw [e]
      show List.lookup x ((x,c) :: _) = some c
      rw [List.lookup_cons,beq_self_eq_true]
    . have hr:x ∈ r:=(List.mem_cons.mp h).resolve_left hx
      have ih:=capsOf_has (env:=env) hr e
      cases e2:env.cells.lookup n with
      | none => exact ih
      | some d =>
        show List.lookup x ((n,d) :: capsOf env r) = some c
        rw [List.lookup_cons,beq_eq_false_iff_ne.mpr hx]
        exact ih
noncomputable def capV (σ:St) (is:List Nat):St:=is.map fun i => (σ[i]?).join
noncomputable def compK (te:TE) (tc:Option TT) (g:TG) (ts:St) (caps:St) (Q:VK):It -> Hp -> Prop:=fun J H1 => ∀ acc,H1 acc = none ->
  ∃ W:Nat -> Nat -> List V -> Hp -> Prop,(∃ m,W 0 m [] (upd H1 acc (.lst []))) /\ ∀ i m ys H,W i m ys H ->
    H acc = some (.lst ys) /\ ((J.stop i H /\ Q (.ref acc) H) ∨ (ys.length < sizeLine /\ J.go i H /\ ∀ (us:St) x H',us.length = ts.length -> J.yld i H x H' -> g x (us ++ caps) H' fun σ2 H2 =>
      (∃ us2,us2.length = ts.length /\ σ2 = us2 ++ caps) /\
      let made:=te σ2
      let next:=fun y H3 => H3 acc = some (.lst ys) /\ ∃ m',m' < m /\ W (i + 1) m' (ys ++ [y]) (upd H3 acc (.lst (ys ++ [y])))
      match tc with
      | none => made H2 next
      | some c => c σ2 H2 fun b H3 => if b = true then made H3 next else ∃ m',m' < m /\ W (i + 1) m' ys H3))
noncomputable def tComp (wi:TI) (te:TE) (tc:Option TT) (g:TG) (k:Nat) (is:List Nat):TE:=fun σ H Q => wi σ H (compK te tc g (List.replicate k none) (capV σ is) Q)
section
variable {X:Cx} {scope:Scope} {N tn names:List Str} {is:List Nat} {elt iter tg:Expr} {ifs:List Expr} {pos:Pos} {wi:TI} {te:TE} {tc:Option TT} {g:TG}
structure CompOk (X:Cx) (scope:Scope) (tn names:List Str) (is:List Nat):Prop where
  cls:(∀ x ∈ names,∃ c,X.env.cells.lookup x = some c) -> closureFor scope X.env = pure (capsOf X.env names)
  nocell:∀ y ∈ scope.names,y.2 ≠ .cell
  kind:scope.kind = .function
  nms:∀ y ∈ scope.names,y.2 = .local -> scope.names.lookup y.1 = some .local
  slots:∀ (j i:Nat) (x:Str),is[j]? = some i -> names[j]? = some x -> X.N[i]? = some x
  len:is.length = names.length
  outk:∀ x ∈ names,X.env.kindOf x = some .cell ∨ X.env.kindOf x = some .free
  ink:∀ x ∈ names,(relabel scope X.env).names.lookup x = some .cell ∨ (relabel scope X.env).names.lookup x = some .free
  free:∀ x,((relabel scope X.env).names.lookup x = some .cell ∨ (relabel scope X.env).names.lookup x = some .free) -> x ∈ names
theorem closure_go {env:Env}:∀ (l:List (Str×NameKind)) (acc:List (Str×Addr)),(∀ x ∈ (l.filter fun y => y.2 == .free).map (·.1),∃ c,env.cells.lookup x = some c) ->
    (forIn l acc fun (x:Str×NameKind) (cs:List (Str×Addr)) => (if (x.2 == .free) = true then (do let a ← cellOf env x.1; pure (ForInStep.yield ((x.1,a) :: cs))) else pure (ForInStep.yield cs)):Sem (List (Str×Addr)))
      = pure ((((l.filter fun y => y.2 == .free).map (·.1)).reverse.filterMap fun n => (env.cells.lookup n).map fun c => (n,c)) ++ acc)
  | [],acc,_ => rfl
  | (n,k) :: r,acc,h => by
    rw [List.forIn_cons]
    by_cases hk:(k == NameKind.free) = true
    . have hf:((n,k) :: r).filter (fun y => y.2 == .free) = (n,k) :: r.filter fun y => y.2 == .free:=by rw [List.filter_cons]; exact if_pos hk
      rw [hf] at h ⊢
      obtain ⟨c,e⟩:=h n (by simp)
      have e1:cellOf env n = pure c:=by unfold cellOf; rw [e]
      show (((if (k == NameKind.free) = true then (do let a ← cellOf env n; pure (ForInStep.yield ((n,a) :: acc))) else pure (ForInStep.yield acc)):Sem _) >>= _) = _
      rw [if_pos hk,e1]
      have ih:=closure_go r ((n,c) :: acc) fun x hx => h x (by simp at hx ⊢; exact .inr hx)
      have e2:(((n,k) :: r.filter fun y => y.2 == .free).map (·.1)).reverse.filterMap (fun n => (env.cells.lookup n).map fun c => (n,c)) = ((r.filter fun y => y.2 == .free).map (·.1)).reverse.filterMap (fun n => (env.cells.lookup n).map fun c => (n,c)) ++ [(n,c)]:=by
        rw [List.map_cons,List.reverse_cons,List.filterMap_append,List.filterMap_cons,e]
        rfl
      rw [e2,List.append_assoc]
      exact ih
    . have hf:((n,k) :: r).filter (fun y => y.2 == .free) = r.filter fun y => y.2 == .free:=by rw [List.filter_cons]; exact if_neg hk
      rw [hf] at h ⊢
      show (((if (k == NameKind.free) = true then (do let a ← cellOf env n; pure (ForInStep.yield ((n,a) :: acc))) else pure (ForInStep.yield acc)):Sem _) >>= _) = _
      rw [if_neg hk]
      exact closure_go r acc h
theorem closureFor_caps {scope:Scope} {env:Env} {names:List Str} (hn:((scope.names.filter fun y => y.2 == .free).map (·.1)).reverse = names) (h:∀ x ∈ names,∃ c,env.cells.lookup x = some c) :
    closureFor scope env = pure (capsOf env names):=by
  unfold closureFor capsOf
  have q:=closure_go (env:=env) scope.names [] fun x hx => h x (by rw [← hn]; exact List.mem_reverse.mpr hx)
  rw [hn,List.append_nil] at q
  show (_ >>= fun r => pure r) = _
  have q2:(forIn scope.names ([]:List (Str×Addr)) fun (x:Str×NameKind) (cs:List (Str×Addr)) => match x with
      | (name,kind) => (if (kind == .free) = true then (do let a ← cellOf env name; pure (ForInStep.yield ((name,a) :: cs))) else pure (ForInStep.yield cs)):Sem (List (Str×Addr))) = pure (names.filterMap fun n => (env.cells.lookup n).map fun c => (n,c)):=q
  first
    | exact (congrArg (fun z => z >>= fun r => pure r) q2)
    | simpa using q2
noncomputable def relab (scope sc:Scope):Scope:={ scope with names:=scope.names.map fun (n,k) => if (k == .free && sc.kind == .function && sc.names.lookup n == some .cell) then (n,.cell) else (n,k) }
theorem comp_ck {X:Cx} {scope sc:Scope} {N tn names:List Str} {is:List Nat} (hsc:X.env.scope = sc) (hN:X.N = N) (h1:((scope.names.filter fun y => y.2 == .free).map (·.1)).reverse = names) (h2:∀ y ∈ scope.names,y.2 ≠ .cell) (h3:scope.kind = .function)
    (h4:∀ y ∈ scope.names,y.2 = .local -> scope.names.lookup y.1 = some .local) (h5:(is.map fun i => N[i]?) = names.map some) (h6:∀ x ∈ names,sc.names.lookup x = some .cell ∨ sc.names.lookup x = some .free)
    (h7:∀ x ∈ names,(relab scope sc).names.lookup x = some .cell ∨ (relab scope sc).names.lookup x = some .free) (h8:∀ y ∈ (relab scope sc).names,(y.2 = .cell ∨ y.2 = .free) -> y.1 ∈ names):CompOk X scope tn names is:=by
  subst hsc hN
  have hr:relabel scope X.env = relab scope X.env.scope:=rfl
  refine ⟨closureFor_caps h1,h2,h3,h4,fun j i x e1 e2 => ?_,?_,h6,?_,fun x hx => ?_⟩
  . have q:=congrArg (fun l => l[j]?) h5
    simp only [List.getElem?_map,e1,e2,Option.map_some] at q
    exact Option.some.inj q
  . have q:=congrArg List.length h5
    simpa using q
  . rw [hr]; exact h7
  . rw [hr] at hx
    have mem:∀ {l:List (Str×NameKind)} {k:NameKind},l.lookup x = some k -> (x,k) ∈ l:=fun {l} {k} => by
      induction l with
      | nil => intro e; cases e
      | cons y r ih =>
        intro e
        obtain ⟨n,k'⟩:=y
        rw [List.lookup_cons] at e
        by_cases hx:x = n
        . subst hx
          rw [beq_self_eq_true] at e
          cases e
          exact List.mem_cons_self
        . rw [beq_eq_false_iff_ne.mpr hx] at e
          exact List.mem_cons_of_mem _ (ih e)
    rcases hx with hx | hx
    . exact h8 _ (mem hx) (.inl rfl)
    . exact h8 _ (mem hx) (.inr rfl)
theorem comp_ok {X:Cx} {scope:Scope} {tn names:List Str} {is:List Nat} (C:CompOk X scope tn names is) {pins:List (Addr×Obj)} {σ:St} {H:Hp} {s:Shared} (I:Inv X pins σ H s) {acc:Addr} {fp:List Addr}
    {s3:Shared} {h1:Heap} {t4:Nat} (I3:Inv X pins σ (upd H acc (.lst [])) s3) (hf:∀ b ∈ fp,FpOk X pins H b) (hfl:∀ b ∈ fp,b < s3.heap.objs.size) (hacc:∀ b ∈ fp,b ≠ acc)
    (ns:h1.Ns s3.heap.objs.size fun _ => none) (kp:∀ b o,s3.heap.get? b = some o -> h1.get? b = some o) :
    Inv (cxComp X scope (capsOf X.env names) (tn ++ names) s3.heap.objs.size s3 (upd H acc (.lst [])) fp) [] (List.replicate tn.length none ++ capV σ is) (upd H acc (.lst [])) { s3 with heap:=h1,toks:=t4 }:=by
  have ok:=I3.ok
  have hC:∀ x c,(capsOf X.env names).lookup x = some c -> X.env.cells.lookup x = some c:=fun x c h => capsOf_sub h
  have cellLt:∀ x c,X.env.cells.lookup x = some c -> c < s3.heap.objs.size:=fun x c e => let ⟨v,z⟩:=I3.cell x c e; z.lt
  refine ⟨⟨ok.mod,?_,ok.glob,ok.blt,Nat.le_refl _,fun x y c a b => ok.inj x y c (hC _ _ a) (hC _ _ b),fun x hx => ?_,fun _ _ z => absurd z (by simp [cxComp]),ok.hd,ok.frames,.inl rfl,fun b hb => ?_,fun b o e => I3.bs b o e,Nat.le_trans ok.bsz I3.sz,fun b o e hb => ?_,fun b hb z => ?_,I3.stack,fun b hb => I3.stkFree b hb⟩,
    rfl,I3.bare,Un.kept kp,⟨_,ns,fun i x v e1 e2 e3 => ?_⟩,fun x c e => ?_,?_,fun x c e => I3.freeC x c (hC _ _ e),fun p hp => absurd hp (by simp [cxComp]),I3.hok.kept kp,?_⟩
  . show (relabel scope X.env).kind = .function
    exact C.kind
  . have hm:=C.free x hx
    obtain ⟨c,e⟩:=ok.has x (C.outk x hm)
    exact ⟨c,capsOf_has hm e⟩
  . refine ⟨Nat.ne_of_lt (hfl b hb),fun x c e => (hf b hb).2.2.2.2.1 x c (hC _ _ e)⟩
  . rcases (hf b hb).2.2.2.1 with z | z
    . exact ok.noex b o e z
    . have:=Nat.lt_of_lt_of_le (Heap.lt_size e) ok.bsz
      omega
  . have:=I3.stkSub b z
    rcases List.mem_cons.mp this with q | q
    . exact (hf b hb).2.1 q
    . exact (hf b hb).2.2.1 q
  . by_cases hi:i < tn.length
    . rw [List.getElem?_append_left (by rw [List.length_replicate]; exact hi),List.getElem?_replicate] at e2
      rw [if_pos hi] at e2
      cases e2
    . have e1:(tn ++ names)[i]? = some x:=e1
      rw [List.getElem?_append_right (by omega)] at e1
      rw [List.getElem?_append_right (by rw [List.length_replicate]; omega),List.length_replicate] at e2
      generalize hj:i - tn.length = j at e1 e2
      unfold capV at e2
      rw [List.getElem?_map] at e2
      cases e4:is[j]? with
      | none => rw [e4] at e2; cases e2
      | some i0 =>
        rw [e4] at e2
        have e5:(σ[i0]?).join = some v:=Option.some.inj e2
        have e6:σ[i0]? = some (some v):=by
          cases q:σ[i0]? with
          | none => rw [q] at e5; cases e5
          | some o => rw [q] at e5; exact congrArg some e5
        have hx:x ∈ names:=List.mem_of_getElem? e1
        obtain ⟨m,hm,look⟩:=I3.loc
        have hv:Vis X.env.scope x:=by
          rcases C.outk x hx with q | q
          . exact .inr (.inl q)
          . exact .inr (.inr q)
        obtain ⟨u,ru,lk⟩:=look i0 x v (C.slots j i0 x e4 e1) e6 hv
        refine ⟨u,ru,.inr ⟨C.ink x hx,?_⟩⟩
        rcases lk with ⟨q,_⟩ | ⟨_,c,ec,z⟩
        . rcases C.outk x hx with q' | q' <;> (rw [q] at q'; cases q')
        . exact ⟨c,capsOf_has hx ec,let ⟨o,a,b⟩:=z; ⟨o,kp _ _ a,b⟩⟩
  . obtain ⟨v,o,a,b⟩:=I3.cell x c (hC _ _ e)
    exact ⟨v,o,kp _ _ a,b⟩
  . exact I3.hok.fresh (Nat.le_refl _)
  . show (List.replicate tn.length none ++ capV σ is).length = (tn ++ names).length
    rw [List.length_append,List.length_append,List.length_replicate]
    unfold capV
    rw [List.length_map,C.len]
theorem compLoop_any {prog:Program} {w:World} {A:Around} {R:Result -> Shared -> Prop} {s:Shared} {elt target iter:Expr} {ifs:List Expr} {scope:Scope} {pos:Pos} {it acc:Value} {env:Env} (I:Nat -> Shared -> Prop)
    (turn:∀ n s,I n s -> wpAny (model prog w) A (pyNext it) (fun r s₁ => match r with
      | none => R (.ok .next) s₁
      | some v => wpAny (model prog w) A (letOwnedTupleGo target it v) (fun _ s₁' => wpAny (model prog w) A (assign target env v) (fun _ s₂ =>
          wpAny (model prog w) A (forIn ifs true fun c r => if r = true then do let ok ← isTrue c env (eval c env); pure (ForInStep.yield ok) else pure (ForInStep.yield r)) (fun ok s₃ =>
            if ok = true then wpAny (model prog w) A (eval elt env) (fun x s₄ =>
              wpAny (model prog w) A (call (.builtin "list.append") [acc,x]) (fun _ s₅ => ∃ m,m < n /\ I m s₅) (fun _ _ => False) s₄) (fun _ _ => False) s₃
            else ∃ m,m < n /\ I m s₃) (fun _ _ => False) s₂) (fun _ _ => False) s₁') (fun _ _ => False) s₁) (fun _ _ => False) s)
    (n:Nat) (h:I n s) :
    codeAny (model prog w) A (.compLoop (.ListComp elt [⟨target,iter,ifs,0⟩] scope pos) 0 it acc env) R s:=by
  refine codeAny_loop rfl I (fun n s hI => ?_) n h
  show wpAny _ A ((compTurn (.ListComp elt [⟨target,iter,ifs,0⟩] scope pos) 0 it acc env).onRaise (fun x => do noteFrame x env; theTreesLotGoes x)) _ _ s
  refine wpAny_noted ?_
  rw [compTurn_list]
  refine wpAny_bind (wpAny_standAt (wpAny_bind (wpAny_mono (turn n s hI) (fun r s₁ h₁ => ?_) fun _ _ h' => h'.elim)))
  cases r with
  | none => exact wpAny_pure h₁
  | some v =>
    refine wpAny_bind (wpAny_mono h₁ (fun _ s₁' h₁' => ?_) fun _ _ h' => h'.elim)
    refine wpAny_bind (wpAny_mono h₁' (fun _ s₂ h₂ => wpAny_bind (wpAny_mono h₂ (fun ok s₃ h₃ => ?_) fun _ _ h' => h'.elim)) fun _ _ h' => h'.elim)
    cases ok with
    | false => exact wpAny_pure ⟨rfl,h₃⟩
    | true =>
      exact wpAny_bind (wpAny_bind (wpAny_mono h₃ (fun x s₄ h₄ => wpAny_bind (wpAny_mono h₄ (fun _ s₅ h₅ => wpAny_pure (wpAny_pure ⟨rfl,h₅⟩)) fun _ _ h' => h'.elim)) fun _ _ h' => h'.elim))
noncomputable def PTs (X':Cx) (ifs:List Expr) (tc:Option TT):Prop:=match ifs,tc with
  | [],none => True
  | [c],some t => PT X' c t
  | _,_ => False
theorem pts_none {X':Cx}:PTs X' [] none:=trivial
structure TurnG (ok:Cx -> Prop) (P:Program) (w:World) (K:PySem.W.Frag) (tg:Expr) (J:It) (fp:List Addr) (it:Addr) (tn:Nat -> Heap -> Prop):Prop where
  mem:it ∈ fp
  obj:∀ i h,tn i h -> ∀ b ∈ fp,∃ o,h.get? b = some o /\ ∀ v,o.data ≠ .cell v
  keep:∀ i h h',tn i h -> (∀ b ∈ fp,∀ o,h.get? b = some o -> h'.get? b = some o) -> tn i h'
  item:∀ (X:Cx),X.prog = P -> X.w = w -> X.K = K -> ok X -> ∀ (i:Nat) (pins:List (Addr×Obj)) (s:Shared) (σ:St) (H:Hp) (E:Value -> Shared -> Prop),Inv X pins σ H s -> (∀ b ∈ fp,FpOk X pins H b) -> tn i s.heap -> J.go i H ->
    wpAny (model P w) X.A (pyNext (.ref it)) (fun r s1 => ∃ u,r = some u /\ wpAny (model P w) X.A (letOwnedTupleGo tg (.ref it) u) (fun _ s2 => ∃ x H',Inv X pins σ H' s2 /\ RelV x u /\ J.yld i H x H' /\ tn (i + 1) s2.heap /\ ∀ b ∈ fp,H' b = none) E s1) E s
  done:∀ (X:Cx),X.prog = P -> X.w = w -> X.K = K -> ok X -> ∀ (i:Nat) (pins:List (Addr×Obj)) (s:Shared) (σ:St) (H:Hp) (E:Value -> Shared -> Prop),Inv X pins σ H s -> (∀ b ∈ fp,FpOk X pins H b) -> tn i s.heap -> J.stop i H ->
    wpAny (model P w) X.A (pyNext (.ref it)) (fun r s1 => r = none /\ Inv X pins σ H s1) E s
  self:∀ (A:Around) (i:Nat) (s:Shared) (Q:Value -> Shared -> Prop) (E:Value -> Shared -> Prop),tn i s.heap -> Q (.ref it) s -> wpAny (model P w) A (pyIter (.ref it)) Q E s
noncomputable def PIEG (ok:Cx -> Prop) (X:Cx) (pins:List (Addr×Obj)) (σ:St) (tg:Expr) (R:It -> Hp -> Prop) (itv:Value) (s2:Shared):Prop :=
  ∃ (it:Addr) (fp:List Addr) (tn:Nat -> Heap -> Prop) (J:It) (H':Hp),itv = .ref it /\ Inv X pins σ H' s2 /\ TurnG ok X.prog X.w X.K tg J fp it tn /\ tn 0 s2.heap /\ (∀ b ∈ fp,FpOk X pins H' b) /\ R J H'
theorem pie_g {X:Cx} {pins:List (Addr×Obj)} {σ:St} {tg:Expr} {R:It -> Hp -> Prop} {itv:Value} {s2:Shared} (h:PIE X pins σ tg R itv s2):PIEG (fun X => X.calm = true) X pins σ tg R itv s2 :=
  let ⟨it,fp,tn,J,H',a,b,T,c,d,e⟩:=h; ⟨it,fp,tn,J,H',a,b,⟨T.mem,T.obj,T.keep,T.item,T.done,T.self⟩,c,d,e⟩
theorem comp_run {X:Cx} {ok:Cx -> Prop} {scope:Scope} {tn names:List Str} {is:List Nat} (ck:CompOk X scope tn names is) (hc:∀ C s0 H0 ex,ok (cxComp X scope (capsOf X.env names) (tn ++ names) C s0 H0 ex)) {elt tg iter:Expr} {ifs:List Expr} {pos:Pos} {te:TE} {tc:Option TT} {g:TG}
    (hg:∀ C s0 H0 ex,PG (cxComp X scope (capsOf X.env names) (tn ++ names) C s0 H0 ex) tg g) (he:∀ C s0 H0 ex,PE (cxComp X scope (capsOf X.env names) (tn ++ names) C s0 H0 ex) elt te)
    (ht:∀ C s0 H0 ex,PTs (cxComp X scope (capsOf X.env names) (tn ++ names) C s0 H0 ex) ifs tc)
    {pins:List (Addr×Obj)} {σ:St} {Q:VK} {s2:Shared} {itv:Value} {E:Value -> Shared -> Prop} (h2:PIEG ok X pins σ tg (compK te tc g (List.replicate tn.length none) (capV σ is) Q) itv s2) {RR:Value -> Addr -> Result -> Shared -> Prop}
    (fin:∀ (acc C:Addr) (H':Hp) (s':Shared) (m:Str -> Option Value),Inv X pins σ H' s' -> s'.heap.Ns C m -> H' C = none -> C ≠ X.env.locals -> (∀ x c,X.env.cells.lookup x = some c -> c ≠ C) -> (∀ p ∈ X.pn ++ pins,p.1 ≠ C) -> X.s₀.heap.objs.size <= C -> Q (.ref acc) H' ->
      RR (.ref acc) C (.ok .next) s') :
    wpAny (model X.prog X.w) X.A (newList []) (fun acc s₃ => wpAny (model X.prog X.w) X.A (newFunctionEnv scope X.env.globals (capsOf X.env names) [] X.env.qual none .none (some X.env)) (fun cenv s₄ =>
      codeAny (model X.prog X.w) X.A (.compStart (.ListComp elt [⟨tg,iter,ifs,0⟩] scope pos) 0 itv acc { cenv with scope:=relabel scope X.env }) (RR acc cenv.locals) s₄) E s₃) E s2:=by
  obtain ⟨it,fp,tnx,J,H2,rfl,I2,T,st2,f2,hK⟩:=h2
  have facc:H2 s2.heap.objs.size = none:=I2.hok.fresh (Nat.le_refl _)
  refine wpAny_newObj_type ?_ (by show 0 <= sizeLine; decide)
  have fpl:∀ b ∈ fp,b < s2.heap.objs.size:=fun b hb => let ⟨o,e,_⟩:=T.obj 0 _ st2 b hb; Heap.lt_size e
  generalize hs3:({ s2 with heap:=s2.heap.push { cls:=.type "list",data:=.seq ([]:List Value).toArray } }:Shared) = s3
  have hsz3:s3.heap.objs.size = s2.heap.objs.size + 1:=by rw [← hs3]; exact Heap.size_push ..
  have keep23:∀ b o,s2.heap.get? b = some o -> s3.heap.get? b = some o:=fun b o e => by rw [← hs3]; exact Heap.get?_push_of_some _ e
  have I3:Inv X pins σ (upd H2 s2.heap.objs.size (.lst [])) s3:=by
    rw [← hs3]
    exact I2.laid (t':=s2.toks) (fun b u e => Heap.get?_push_of_some _ e) (Nat.le_refl _) ⟨Nat.zero_le _,[],0,.nil,Heap.get?_push_size _ rfl⟩
  refine wpAny_newFunctionEnv ck.nocell (by intro y hy; simp at hy) (fun h1 ns sb => ?_) ck.kind
  have kp:∀ b o,s3.heap.get? b = some o -> h1.get? b = some o:=fun b o e => sb.extBut b o (Nat.ne_of_lt (Heap.lt_size e)) (Heap.get?_push_of_some _ e)
  have lt3:∀ b:Addr,b < s2.heap.objs.size -> b < s3.heap.objs.size:=fun b hb => Nat.lt_of_lt_of_le hb (by rw [hsz3]; exact Nat.le_succ _)
  have ns':h1.Ns s3.heap.objs.size fun _ => none:=ns
  have I4:=comp_ok (t4:=s3.toks + ([]:List (Str×Value)).length) ck I2 I3 f2 (fun b hb => lt3 b (fpl b hb)) (fun b hb => Nat.ne_of_lt (fpl b hb)) ns' kp
  generalize hX':cxComp X scope (capsOf X.env names) (tn ++ names) s3.heap.objs.size s3 (upd H2 s2.heap.objs.size (.lst [])) fp = X' at I4
  have hA:X'.A = X.A:=by rw [← hX']; rfl
  have hP:X'.prog = X.prog:=by rw [← hX']; rfl
  have hW:X'.w = X.w:=by rw [← hX']; rfl
  have hKK:X'.K = X.K:=by rw [← hX']; rfl
  have hcm:ok X':=by rw [← hX']; exact hc _ _ _ _
  have hfs:X'.fs = frs X.stack:=by rw [← hX']; rfl
  have hex:X'.ex = fp:=by rw [← hX']; rfl
  have hloc:X'.env.locals = s3.heap.objs.size:=by rw [← hX']; rfl
  have hs0:X'.s₀ = s3:=by rw [← hX']; rfl
  have hH0:X'.H₀ = upd H2 s2.heap.objs.size (.lst []):=by rw [← hX']; rfl
  have hxe:X'.xe = fun _ _ => False:=by rw [← hX']; rfl
  have henv:X'.env = compEnvC scope (capsOf X.env names) s3.heap.objs.size X.env:=by rw [← hX']; rfl
  have hg':PG X' tg g:=by rw [← hX']; exact hg _ _ _ _
  have he':PE X' elt te:=by rw [← hX']; exact he _ _ _ _
  have ht':PTs X' ifs tc:=by rw [← hX']; exact ht _ _ _ _
  have cells':∀ x c,X'.env.cells.lookup x = some c -> X.env.cells.lookup x = some c:=fun x c e => by rw [henv] at e; exact capsOf_sub e
  obtain ⟨W,⟨m0,w0⟩,turn⟩:=hK _ facc
  have stat:∀ {H':Hp},(∀ b ∈ fp,H' b = none) -> ∀ b ∈ fp,FpOk X' [] H' b:=fun {H'} hn b hb => by
    refine ⟨hn b hb,?_,?_,.inl (by rw [hex]; exact hb),fun x c e => (f2 b hb).2.2.2.2.1 x c (cells' x c e),fun p hp => ?_⟩
    . rw [hloc]; exact Nat.ne_of_lt (lt3 b (fpl b hb))
    . rw [hfs]
      intro z
      rcases List.mem_cons.mp (I2.stkSub b z) with q | q
      . exact (f2 b hb).2.1 q
      . exact (f2 b hb).2.2.1 q
    . rw [← hX'] at hp
      exact absurd hp (by simp [cxComp])
  have loop:∀ s4:Shared,Inv X' [] (List.replicate tn.length none ++ capV σ is) (upd H2 s2.heap.objs.size (.lst [])) s4 -> tnx 0 s4.heap ->
      codeAny (model X.prog X.w) X.A (.compLoop (.ListComp elt [⟨tg,iter,ifs,0⟩] scope pos) 0 (.ref it) (.ref s2.heap.objs.size) X'.env) (RR (.ref s2.heap.objs.size) s3.heap.objs.size) s4:=by
    intro s4 J4 st4
    refine compLoop_any (fun n s' => ∃ i ys ts H',Inv X' [] (ts ++ capV σ is) H' s' /\ ts.length = tn.length /\ tnx i s'.heap /\ (∀ b ∈ fp,H' b = none) /\ W i n ys H') ?_ m0
      ⟨0,[],_,_,J4,List.length_replicate ..,st4,fun b hb => by rw [upd_ne (Nat.ne_of_lt (fpl b hb))]; exact (f2 b hb).1,w0⟩
    rintro n s5 ⟨i,ys,ts,H5,I5,hts,st5,fr5,w5⟩
    obtain ⟨hacc5,hcase⟩:=turn i n ys H5 w5
    have hrun:∀ {α:Type} {m:Sem α} {Q':α -> Shared -> Prop} {s':Shared},wpAny (model X'.prog X'.w) X'.A m Q' (fun _ _ => False) s' -> wpAny (model X.prog X.w) X.A m Q' (fun _ _ => False) s':=fun {α m Q' s'} z => by
      rw [hP,hW,hA] at z; exact z
    rcases hcase with ⟨stop,qn⟩ | ⟨hlen,go,step⟩
    . have z:=T.done X' hP hW hKK hcm i [] s5 _ H5 (fun _ _ => False) I5 (stat fr5) st5 stop
      rw [hA] at z
      refine thn z fun r s6 ⟨hr,I6⟩ => ?_
      subst hr
      -- the frame around,behind the block
      have u23:Un (frs X.stack) fp H2 (upd H2 s2.heap.objs.size (.lst [])) s2.heap s3.heap:=Un.laid keep23 (Nat.le_refl _) facc
      have u36:Un (frs X.stack) fp (upd H2 s2.heap.objs.size (.lst [])) H5 s3.heap s6.heap:=by
        have b:=I6.base
        rw [hfs,hex,hs0,hH0] at b
        exact b
      have hos:s6.os = s2.os:=by
        have b:=I6.os
        rw [hs0,← hs3] at b
        exact b
      have IO:Inv X pins σ H5 s6:=I2.call' hos (u23.trans u36) (by have b:=I6.hok; rw [hP,hW] at b; exact b) I6.bare fun b hb => by
        obtain ⟨_,f1,f2',f3,f4,f5⟩:=f2 b hb
        exact ⟨f3,f1,fun x c e => f4 x c e,fun p hp => f5 p hp⟩
      obtain ⟨m,hm,_⟩:=I6.loc
      rw [hloc] at hm
      have fC:H5 s3.heap.objs.size = none:=by have b:=I6.free; rw [hloc] at b; exact b
      refine fin _ _ H5 s6 m IO hm fC ?_ (fun x c e => ?_) (fun p hp => ?_) ?_ qn
      . exact Nat.ne_of_gt (Nat.lt_of_lt_of_le I2.lt (by omega))
      . obtain ⟨v,z⟩:=I2.cell x c e
        exact Nat.ne_of_lt (lt3 c z.lt)
      . exact Nat.ne_of_lt (lt3 p.1 (Heap.lt_size (I2.pin p hp).1))
      . exact Nat.le_trans I2.sz (by omega)
    . have z:=T.item X' hP hW hKK hcm i [] s5 _ H5 (fun _ _ => False) I5 (stat fr5) st5 go
      rw [hA] at z
      refine thn z fun r s6 ⟨u,hr,h6⟩ => ?_
      subst hr
      refine thn h6 fun _ s7 ⟨x,H7,I7,r7,y7,st7,fr7⟩ => ?_
      have I7':=I7.pinned (stat fr7) (T.obj _ _ st7)
      have zg:=hg' _ s7 _ H7 x u _ I7' r7 (step ts x H7 (by rw [hts,List.length_replicate]) y7)
      rw [hxe] at zg
      refine thn (hrun zg) fun _ s8 ⟨σ8,H8,I8,⟨us2,hus,e8⟩,q8⟩ => ?_
      subst e8
      rw [List.length_replicate] at hus
      have back:∀ {s9:Shared} {H9:Hp},Inv X' ([] ++ pinsAt fp s7.heap) (us2 ++ capV σ is) H9 s9 -> tnx (i + 1) s9.heap /\ ∀ b ∈ fp,H9 b = none:=fun {s9 H9} I9 => by
        refine ⟨T.keep _ _ _ st7 fun b hb o e => (I9.pin (b,o) (List.mem_append_right _ (List.mem_append_right _ (mem_pinsAt hb e)))).1,fun b hb => ?_⟩
        obtain ⟨o,e,d⟩:=T.obj _ _ st7 b hb
        exact (I9.pin (b,o) (List.mem_append_right _ (List.mem_append_right _ (mem_pinsAt hb e)))).2.1
      have made:∀ {s9:Shared} {H9:Hp},Inv X' ([] ++ pinsAt fp s7.heap) (us2 ++ capV σ is) H9 s9 -> te (us2 ++ capV σ is) H9 (fun y H3 => H3 s2.heap.objs.size = some (.lst ys) /\ ∃ m',m' < n /\ W (i + 1) m' (ys ++ [y]) (upd H3 s2.heap.objs.size (.lst (ys ++ [y])))) ->
          wpAny (model X.prog X.w) X.A (eval elt X'.env) (fun x s₄ => wpAny (model X.prog X.w) X.A (call (.builtin "list.append") [.ref s2.heap.objs.size,x]) (fun _ s₅ => ∃ m,m < n /\ ∃ i ys ts H',Inv X' [] (ts ++ capV σ is) H' s₅ /\ ts.length = tn.length /\ tnx i s₅.heap /\ (∀ b ∈ fp,H' b = none) /\ W i m ys H') (fun _ _ => False) s₄) (fun _ _ => False) s9:=fun {s9 H9} I9 q9 => by
        have ze:=he' _ s9 _ H9 _ I9 q9
        rw [hxe] at ze
        refine thn (hrun ze) fun y s10 ⟨yv,H10,I10,ry,ha10,m',hm',w10⟩ => ?_
        have za:=(mt_append (X:=X')) ([] ++ pinsAt fp s7.heap) s10 (us2 ++ capV σ is) H10 (.ref s2.heap.objs.size) [yv] (.ref s2.heap.objs.size) [y] (fun v H' => v = .non /\ H' = upd H10 s2.heap.objs.size (.lst (ys ++ [yv]))) I10 rfl (.cons ry .nil)
          ⟨_,ys,yv,rfl,rfl,ha10,hlen,rfl,rfl⟩
        rw [hxe] at za
        refine thn (hrun za) fun _ s11 ⟨_,H11,I11,_,_,e11⟩ => ?_
        subst e11
        obtain ⟨b1,b2⟩:=back I11
        exact ⟨m',hm',i + 1,_,us2,_,I11.unpinned,hus,b1,b2,w10⟩
      cases ifs with
      | nil =>
        cases tc with
        | some t => exact ht'.elim
        | none => exact wpAny_tests_nil (by rw [if_pos rfl]; exact made I8 q8)
      | cons c0 rest =>
        cases rest with
        | cons _ _ => cases tc <;> exact ht'.elim
        | nil =>
          cases tc with
          | none => exact ht'.elim
          | some t =>
            have zt:=(show PT X' c0 t from ht') _ s8 _ H8 _ I8 q8
            rw [hxe] at zt
            refine wpAny_tests_one (thn (hrun zt) fun ok s9 ⟨H9,I9,q9⟩ => ?_)
            cases ok with
            | true => rw [if_pos rfl]; rw [if_pos rfl] at q9; exact made I9 q9
            | false =>
              rw [if_neg Bool.false_ne_true]
              rw [if_neg Bool.false_ne_true] at q9
              obtain ⟨m',hm',w9⟩:=q9
              obtain ⟨b1,b2⟩:=back I9
              exact ⟨m',hm',i + 1,_,us2,_,I9.unpinned,hus,b1,b2,w9⟩
  have st4:tnx 0 h1:=T.keep _ _ _ st2 fun b hb o e => kp b o (keep23 b o e)
  have goal0:=loop _ I4 st4
  rw [henv] at goal0
  refine codeAny_compStart_list goal0 (T.self X.A 0 _ _ _ st4 goal0)
theorem pe_comp (ck:CompOk X scope tn names is) (hc:X.calm = true) (hi:PI X tg iter wi)
    (hg:∀ C s0 H0 ex,PG (cxComp X scope (capsOf X.env names) (tn ++ names) C s0 H0 ex) tg g) (he:∀ C s0 H0 ex,PE (cxComp X scope (capsOf X.env names) (tn ++ names) C s0 H0 ex) elt te)
    (ht:∀ C s0 H0 ex,PTs (cxComp X scope (capsOf X.env names) (tn ++ names) C s0 H0 ex) ifs tc) (hs:∀ x,foldedSetIterable iter X.env x = pure x:=by intro _; rfl) :
    PE X (.ListComp elt [⟨tg,iter,ifs,0⟩] scope pos) (tComp wi te tc g tn.length is):=by
  intro pins s σ H Q I h
  rw [eval_ListComp]
  refine wpAny_comprehension_free (use:=none) rfl hs (ck.cls fun x hx => I.ok.has x (ck.outk x hx)) ck.kind ck.nms (thn (hi pins s σ H _ I h) fun v s1 h1 => thn h1 fun itv s2 h2 => ?_)
  refine comp_run (RR:=fun acc C => compPost (model X.prog X.w) X.A X.xe none (EP X pins σ Q) acc C) (ok:=fun X => X.calm = true) ck (fun _ _ _ _ => hc) hg he ht (pie_g h2) fun acc C H' s' m I' hn hC hL hcl hpn hsz q => ?_
  refine ⟨m,hn,fun h' sb => ⟨.ref acc,H',?_,rfl,q⟩⟩
  exact I'.turned (t':=s'.toks) (fun b o hb e => sb.extBut b o hb e) hC hL (.inr hsz) hcl hpn
theorem ps_setC {i:Nat} {x:Str} {pos' spos:Pos} (hN:X.N.Nodup) (hi':X.N[i]? = some x) (hx:Loc X.env.scope x) (ck:CompOk X scope tn names is) (hc:X.calm = true) (hi:PI X tg iter wi)
    (hg:∀ C s0 H0 ex,PG (cxComp X scope (capsOf X.env names) (tn ++ names) C s0 H0 ex) tg g) (he:∀ C s0 H0 ex,PE (cxComp X scope (capsOf X.env names) (tn ++ names) C s0 H0 ex) elt te)
    (ht:∀ C s0 H0 ex,PTs (cxComp X scope (capsOf X.env names) (tn ++ names) C s0 H0 ex) ifs tc) (hs:∀ x,foldedSetIterable iter X.env x = pure x:=by intro _; rfl)
    (hsw:swapsWith (.ListComp elt [⟨tg,iter,ifs,0⟩] scope pos) (some (.Name x pos')) spos.line X.env = pure true:=by rfl) (hf:X.fn x = true ∨ X.env.scope.names.lookup x = some .local:=by first | exact .inl rfl | exact .inr rfl | assumption) :
    PS X (.Assign [.Name x pos'] (.ListComp elt [⟨tg,iter,ifs,0⟩] scope pos) spos) (tAsg (tComp wi te tc g tn.length is) (gName i)):=by
  intro pins s σ H D I h
  rw [exec_Assign_Name_used _ _ _ _ hsw]
  refine wpAny_bind (wpAny_standAt (wpAny_bind ?_))
  show wpAny _ X.A (do let _ ← comprehension (.ListComp elt [⟨tg,iter,ifs,0⟩] scope pos) scope X.env _ (newList []) false (eval iter X.env) (some (assign (.Name x pos') X.env))) _ _ s
  refine wpAny_bind (wpAny_mono (wpAny_comprehension_free (use:=some (assign (.Name x pos') X.env)) (Q:=fun _ s' => SP X pins D .next s') rfl hs (ck.cls fun x hx => I.ok.has x (ck.outk x hx)) ck.kind ck.nms
    (thn (hi pins s σ H _ I h) fun v s1 h1 => thn h1 fun itv s2 h2 => ?_)) (fun _ s' hq => wpAny_pure (wpAny_pure hq)) fun _ _ e => e)
  refine comp_run (RR:=fun acc C => compPost (model X.prog X.w) X.A X.xe (some (assign (.Name x pos') X.env)) (fun _ s' => SP X pins D .next s') acc C) (ok:=fun X => X.calm = true) ck (fun _ _ _ _ => hc) hg he ht (pie_g h2) fun acc C H' s' m I' hn hC hL hcl hpn hsz q => ?_
  show wpAny _ X.A (assign (.Name x pos') X.env (.ref acc)) _ _ s'
  refine wpAny_assign_Name (store_ok2 I' hN hi' hx (v:=.ref acc) rfl (fun s'' I'' sb => ?_) hf)
  obtain ⟨a,sb,ha⟩:=sb
  have hne:C ≠ a:=by
    rcases ha with rfl | ha
    . exact hL
    . exact fun z => hcl x a ha z.symm
  refine ⟨m,hn.sameBut sb hne,fun h' sb' => ⟨_,H',I''.turned (t':=s''.toks) (fun b o hb e => sb'.extBut b o hb e) hC hL (.inr hsz) hcl hpn,q⟩⟩
end
section
variable {te:TE} {Q:VK} {H:Hp} {σ caps:St} {wi:TI} {tc:TT} {K:PySem.W.Frag}
theorem r_comp {o:Option TT} {g:TG} {k:Nat} {is:List Nat} (h:wi σ H (compK te o g (List.replicate k none) (capV σ is) Q)):tComp wi te o g k is σ H Q:=h
theorem len1 {us:St} (h:us.length = 1):∃ o,us = [o]:=by
  cases us with
  | nil => cases h
  | cons o r =>
    cases r with
    | nil => exact ⟨o,rfl⟩
    | cons _ _ => simp at h
noncomputable def cW (n:Nat) (acc:Addr) (Pv:Nat -> List V -> Hp -> Prop):Nat -> Nat -> List V -> Hp -> Prop:=fun i m ys H1 => m = n - i /\ i <= n /\ ys.length = i /\ H1 acc = some (.lst ys) /\ Pv i ys H1
noncomputable def cNext (n:Nat) (acc:Addr) (Pv:Nat -> List V -> Hp -> Prop) (ys:List V) (i:Nat):VK:=fun y H3 => H3 acc = some (.lst ys) /\ ∃ m',m' < n - i /\ cW n acc Pv (i + 1) m' (ys ++ [y]) (upd H3 acc (.lst (ys ++ [y])))
theorem c_next {n:Nat} {acc:Addr} {Pv:Nat -> List V -> Hp -> Prop} {ys:List V} {i:Nat} {y:V} {H3:Hp} (hlt:i < n) (hl:ys.length = i) (ha:H3 acc = some (.lst ys)) (p:Pv (i + 1) (ys ++ [y]) (upd H3 acc (.lst (ys ++ [y])))):cNext n acc Pv ys i y H3 :=
  ⟨ha,n - (i + 1),by omega,rfl,hlt,by rw [List.length_append,hl]; rfl,upd_same,p⟩
theorem r_compR {lo:Int} {n:Nat} (hn:n <= 1000) (Pv:Addr -> Nat -> List V -> Hp -> Prop) (h0:∀ acc,H acc = none -> Pv acc 0 [] (upd H acc (.lst [])))
    (hs:∀ acc i ys H1,H acc = none -> i < n -> ys.length = i -> H1 acc = some (.lst ys) -> Pv acc i ys H1 -> te (some (.int (lo + i)) :: caps) H1 (cNext n acc (Pv acc) ys i))
    (hd:∀ acc ys H1,H acc = none -> H1 acc = some (.lst ys) -> ys.length = n -> Pv acc n ys H1 -> Q (.ref acc) H1):compK te none (gName 0) (List.replicate 1 none) caps Q (Itr lo n) H:=by
  intro acc hacc
  refine ⟨cW n acc (Pv acc),⟨n,by simp,Nat.zero_le _,rfl,upd_same,h0 acc hacc⟩,?_⟩
  rintro i m ys H1 ⟨rfl,hi,hl,ha,p⟩
  refine ⟨ha,?_⟩
  by_cases hlt:i < n
  . refine .inr ⟨small1000 (by omega),hlt,fun us x H' hu y => ?_⟩
    obtain ⟨e,y⟩:=y
    subst e y
    obtain ⟨o,rfl⟩:=len1 hu
    exact ⟨⟨[some (.int (lo + i))],rfl,rfl⟩,hs acc i ys _ hacc hlt hl ha p⟩
  . have e:i = n:=by omega
    subst e
    exact .inl ⟨Nat.le_refl _,hd acc ys H1 hacc ha hl p⟩
theorem r_compL {a:Addr} {xs:List V} (hn:xs.length <= 1000) (Pv:Addr -> Nat -> List V -> Hp -> Prop) (h0:∀ acc,H acc = none -> Pv acc 0 [] (upd H acc (.lst []))) (hl':∀ acc i ys H1,H acc = none -> i <= xs.length -> Pv acc i ys H1 -> SqL K H1 a xs)
    (hs:∀ acc i ys H1 x,H acc = none -> xs[i]? = some x -> ys.length = i -> H1 acc = some (.lst ys) -> Pv acc i ys H1 -> te (some x :: caps) H1 (cNext xs.length acc (Pv acc) ys i))
    (hd:∀ acc ys H1,H acc = none -> H1 acc = some (.lst ys) -> ys.length = xs.length -> Pv acc xs.length ys H1 -> Q (.ref acc) H1):compK te none (gName 0) (List.replicate 1 none) caps Q (Itl K a) H:=by
  intro acc hacc
  refine ⟨cW xs.length acc (Pv acc),⟨xs.length,by simp,Nat.zero_le _,rfl,upd_same,h0 acc hacc⟩,?_⟩
  rintro i m ys H1 ⟨rfl,hi,hl,ha,p⟩
  have q:=hl' acc i ys H1 hacc hi p
  refine ⟨ha,?_⟩
  by_cases hlt:i < xs.length
  . refine .inr ⟨small1000 (by omega),⟨xs,xs[i],q,by simp [hlt]⟩,fun us x H' hu y => ?_⟩
    obtain ⟨e,y⟩:=y
    subst e
    obtain ⟨o,rfl⟩:=len1 hu
    exact ⟨⟨[some x],rfl,rfl⟩,hs acc i ys _ x hacc (y xs q) hl ha p⟩
  . have e:i = xs.length:=by omega
    subst e
    exact .inl ⟨⟨xs,q,Nat.le_refl _⟩,hd acc ys H1 hacc ha hl p⟩
end
end L2
namespace L2
open PySem
section
variable {H:Hp} {Q:VK} {u v:V} {a b c d:Int} {m n:Nat} {K:PySem.W.Frag}
end
end L2
namespace L2
theorem rat_of {t b f g:Int} (hb:b ≠ 0) (hg:0 < g) (hc:Int.gcd f g = 1) (e:f * b = t * g):(Rat.divInt t b).num = f /\ ((Rat.divInt t b).den:Int) = g:=by
  obtain ⟨n,rfl⟩:∃ n:Nat,g = n:=⟨g.toNat,by omega⟩
  have h1:Rat.divInt t b = Rat.divInt f n:=(Rat.divInt_eq_divInt_iff hb (by omega)).mpr e.symm
  have h2:Rat.divInt f n = Rat.mk' f n (by omega) hc:=Rat.num_divInt_den (Rat.mk' f n (by omega) hc)
  rw [h1,h2]
  exact ⟨rfl,rfl⟩
end L2
namespace L2
end L2
namespace L2
open PySem
section
variable {prog:Program} {w:World} {K:Type} [DecidableEq K] {knd:KeyKind prog w K} {A:Around} {E:Value -> Shared -> Prop} {s:Shared}
end
end L2
namespace L2
open PySem
section
variable {prog:Program} {w:World} {A:Around} {E:Value -> Shared -> Prop} {s:Shared}
end
end L2
namespace L2
open PySem
section
variable {prog:Program} {w:World} {A:Around} {E:Value -> Shared -> Prop} {s:Shared}
variable {a it:Addr} {es:Array (Int×Value)} {ep i n:Nat} {t:SetTable} {first:Value}
end
end L2
namespace L2
open PySem
section
variable {prog:Program} {w:World} {A:Around} {E:Value -> Shared -> Prop} {s:Shared} {a it:Addr} {es:Array (Int×Value)} {ep i n:Nat} {t:SetTable}
end
section
variable {prog:Program} {w:World} {A:Around} {E:Value -> Shared -> Prop} {s:Shared} {a it:Addr} {es:Array (Int×Value)} {ep i n:Nat} {t:SetTable}
end
end L2
namespace L2
open PySem
section
variable {prog:Program} {w:World} {A A₂:Around} {E:Value -> Shared -> Prop} {s:Shared} {a it:Addr} {es:Array (Int×Value)} {ep i n:Nat} {t:SetTable}
end
end L2
namespace L2
open PySem
section
variable {prog:Program} {w:World} {A A₂:Around} {E:Value -> Shared -> Prop} {s:Shared} {a it:Addr} {es:Array (Int×Value)} {ep i n:Nat} {t:SetTable}
end
end L2
namespace L2
open PySem
section
variable {prog:Program} {w:World} {A:Around} {E:Value -> Shared -> Prop} {s:Shared} {a:Addr}
end
section
variable {prog:Program} {w:World} {A:Around} {R:Result -> Shared -> Prop} {I:Addr} {fp wr:List Addr} {G:Array GenState -> Array GenState -> Prop} {n:Nat} {P:Nat -> Value -> Prop} {St:Nat -> Shared -> Prop}
end
end L2
namespace L2
open PySem
section
variable {prog:Program} {w:World} {A:Around} {E:Value -> Shared -> Prop} {s:Shared}
end
end L2
namespace L2
open PySem PyProof.Rows
section
variable {prog:Program} {w:World} {A:Around} {E:Value -> Shared -> Prop} {s:Shared}
end
end L2
namespace L2
open PySem PyProof.Rows
section
variable {prog:Program} {w:World} {K:Type} [DecidableEq K] {knd:KeyKind prog w K} {A A₂:Around} {E:Value -> Shared -> Prop} {s:Shared} {a it:Addr} {kvs:List (K×Value)} {ep:Nat}
end
end L2
namespace L2
open PySem PyProof.Rows
section
variable {prog:Program} {w:World} {A:Around} {E:Value -> Shared -> Prop} {s:Shared}
variable {K:Type} [DecidableEq K] {knd:KeyKind prog w K}
end
end L2
namespace L2
open PySem PyProof.Rows
section
variable {prog:Program} {w:World} {K:Type} [DecidableEq K] {knd:KeyKind prog w K} {A:Around} {E:Value -> Shared -> Prop} {s:Shared} {d:Addr} {kvs:List (K×Value)} {k:K} {key dflt:Value}
end
end L2
namespace L2
open PySem PyProof.Rows
end L2
namespace L2
open PySem PySem.Spec PyProof.Rows
noncomputable def melt (a:Addr) (H:Hp):Hp:=fun b => if b = a then (match H a with | some (.frz _ u) => some u | o => o) else H b
section
variable {X:Cx} {pins:List (Addr×Obj)} {σ:St} {H:Hp} {s:Shared} {a:Addr}
end
section
variable {X:Cx} {tg:Expr}
variable {scope:Scope} {tn names:List Str} {is:List Nat} {elt iter:Expr} {ifs:List Expr} {pos:Pos} {tl te:TE} {tc:Option TT} {g:TG}
end
end L2
namespace L2
open PySem PySem.Spec PyProof.Rows
section
variable {X:Cx} {pins:List (Addr×Obj)} {σ:St} {H:Hp} {s:Shared} {tg:Expr}
noncomputable def Ite (K:PySem.W.Frag) (a:Addr):It :=
  ⟨fun i H => ∃ xs x,SqL K H a xs /\ xs[i]? = some x,fun i H v H' => ∃ T x,v = .ref T /\ H T = none /\ H' = upd H T (.tup [.int i,x]) /\ ∀ xs,SqL K H a xs -> xs[i]? = some x,fun i H => ∃ xs,SqL K H a xs /\ xs.length <= i⟩
theorem turn_enum {P:Program} {w:World} {K:PySem.W.Frag} {elts:List Expr} {k1:Nat} {tpos:Pos} (a e it:Addr) (hei:e ≠ it) :
    Turn P w K (.Tuple elts k1 tpos) (Ite K a) [e,it] e (fun i h => (∃ old,IsEnum h e it i old) /\ h.IsListIter it a i) where
  mem:=by simp
  obj:=fun i h st b hb => by
    obtain ⟨⟨old,he⟩,o,e1,c,d⟩:=st
    rcases List.mem_cons.mp hb with rfl | hb
    . exact ⟨_,he,fun v z => nomatch z⟩
    . have hb:b = it:=by simpa using hb
      subst hb
      exact ⟨o,e1,fun v z => by rw [d] at z; cases z⟩
  keep:=fun i h h' ⟨⟨old,he⟩,st⟩ k => ⟨⟨old,k e (by simp) _ he⟩,st.at fun o q => k it (by simp) o q⟩
  item:=by
    intro X hP hw hK hc i pins s σ H E I hf st hg
    subst hP hw hK
    obtain ⟨xs,x,hq,hx⟩:=hg
    obtain ⟨its,rv,p,hz⟩:=I.list hq
    obtain ⟨u,hu,ru⟩:=rv.get hx
    obtain ⟨⟨old,he⟩,hit⟩:=st
    obtain ⟨f0,f1,f2,f3,f4,f5⟩:=hf e (by simp)
    obtain ⟨g0,g1,g2,g3,g4,g5⟩:=hf it (by simp)
    refine wpAny_pyNext_enum_item he hit p.isList (by simpa using hu) hei fun h' ho hit' hT hsz hk => ?_
    refine ⟨_,rfl,wpAny_letOwnedTupleGo_enum (s:={ s with heap:=h',toks:=s.toks + 1 }) ho fun h2 he2 sb => ?_⟩
    have hTn:H s.heap.objs.size = none:=I.hok.fresh (Nat.le_refl _)
    have hTe:s.heap.objs.size ≠ e:=Nat.ne_of_gt (Heap.lt_size he)
    have hTi:s.heap.objs.size ≠ it:=by obtain ⟨_,q,_⟩:=hit; exact Nat.ne_of_gt (Heap.lt_size q)
    have k2:∀ b o,b ≠ e -> b ≠ it -> s.heap.get? b = some o -> h2.get? b = some o:=fun b o n1 n2 q => (sb.2 b n1).trans (hk b o n1 n2 q)
    -- first the iterators turn,then the tuple is tracked
    have I1:Inv X pins σ H { s with heap:=h2,toks:=s.toks + 1 }:=by
      refine I.step (g':=s.gens) (d':=s.drawn) (t':=s.toks + 1) (ch:=[e,it]) (fun b hb => ?_) (fun b o _ _ hb q _ => k2 b o (fun z => hb (by simp [z])) (fun z => hb (by simp [z])) q) (fun b o _ _ hb q _ => ⟨o.slots,k2 b o (fun z => hb (by simp [z])) (fun z => hb (by simp [z])) q⟩)
        (fun b o _ _ q => q) (fun b o hb q => ⟨o,k2 b o (fun z => hb (by simp [z])) (fun z => hb (by simp [z])) q⟩) (fun _ _ q => q) (fun _ _ _ q => q) (fun _ ps q => ⟨#[],by simpa using q⟩) (fun m hm => ?_) ?_ I.bare
      . rcases List.mem_cons.mp hb with rfl | hb
        . exact ⟨f3,f1,f4,f5⟩
        . have hb:b = it:=by simpa using hb
          subst hb
          exact ⟨g3,g1,g4,g5⟩
      . obtain ⟨o,es,ep,q,r⟩:=hm
        exact ⟨o,es,ep,k2 _ _ (Ne.symm f1) (Ne.symm g1) q,r⟩
      . intro b u q
        refine (I.hok b u q).stay (fun c v hc r => k2 c v ?_ ?_ r) (fun _ q => q) fun _ _ q => q
        . rintro rfl
          rcases hc with rfl | hc
          . rw [f0] at q; cases q
          . rw [f0] at hc; cases hc
        . rintro rfl
          rcases hc with rfl | hc
          . rw [g0] at q; cases q
          . rw [g0] at hc; cases hc
    have hT2:h2.get? s.heap.objs.size = some { cls:=.type "tuple",data:=.seq #[.int i s.toks,u] }:=(sb.2 _ hTe).trans hT
    have I2:Inv X pins σ (upd H s.heap.objs.size (.tup [.int i,x])) { s with heap:=h2,toks:=s.toks + 1 }:=by
      have nn:∀ {b:Addr},b < s.heap.objs.size -> H b = none -> upd H s.heap.objs.size (.tup [.int i,x]) b = none:=fun {b} hb e => by rw [upd_ne (Nat.ne_of_lt hb)]; exact e
      have old:∀ {b:Addr} {o:HO},H b = some o -> upd H s.heap.objs.size (.tup [.int i,x]) b = some o:=fun {b o} e => by rw [upd_ne (ne_of_none e hTn)]; exact e
      refine ⟨I1.ok,I1.os,I1.bare,⟨I1.base.keep,I1.base.slot,fun b o q n hx => nn ?_ (I1.base.free b o q n hx),I1.base.there,fun b ys q => old (I1.base.tups b ys q),fun b o v q => old (I1.base.frzs b o v q),fun b ps q => ?_⟩,I1.loc,I1.cell,nn I.lt I1.free,fun y c q => nn ?_ (I1.freeC y c q),fun p hp => ?_,fun b o q => ?_,I1.len⟩
      . exact Nat.lt_of_lt_of_le (Heap.lt_size q) I.sz
      . obtain ⟨more,z⟩:=I1.base.tbls b ps q
        exact ⟨more,old z⟩
      . obtain ⟨v,z⟩:=I.cell y c q
        exact z.lt
      . obtain ⟨z1,z2,z3⟩:=I1.pin p hp
        exact ⟨z1,nn (Heap.lt_size (I.pin p hp).1) z2,z3⟩
      . by_cases hb:b = s.heap.objs.size
        . subst hb
          rw [upd_same] at q
          cases q
          exact ⟨⟨by rw [sizeLine_eq]; simp,_,hT2,rfl⟩,[.int i s.toks,u],.cons ⟨_,rfl⟩ (.cons ru .nil),_,hT2,rfl,_,rfl⟩
        . rw [upd_ne hb] at q
          exact (I1.hok b o q).stay (fun _ _ _ z => z) (fun c z => old z) fun c ys z => old z
    exact ⟨.ref s.heap.objs.size,_,I2,rfl,⟨s.heap.objs.size,x,rfl,hTn,rfl,fun ys hy => by rw [I.list_inj hy hq]; exact hx⟩,⟨⟨u,by simpa using he2⟩,hit'.at fun o q => (sb.2 it (Ne.symm hei)).trans q⟩,fun b hb => by
      rcases List.mem_cons.mp hb with rfl | hb
      . rw [upd_ne (Ne.symm hTe)]; exact f0
      . have hb:b = it:=by simpa using hb
        subst hb
        rw [upd_ne (Ne.symm hTi)]; exact g0⟩
  done:=by
    intro X hP hw hK hc i pins s σ H E I hf st hg
    subst hP hw hK
    obtain ⟨xs,hq,hx⟩:=hg
    obtain ⟨its,rv,p,hz⟩:=I.list hq
    obtain ⟨⟨old,he⟩,hit⟩:=st
    obtain ⟨g0,g1,g2,g3,g4,g5⟩:=hf it (by simp)
    have hl:=rv.length
    exact wpAny_pyNext_enum_end (I.ok.hd hc) he hit p.isList (by simp; omega) fun h' eb => ⟨rfl,I.turned (t':=s.toks) (fun b o hb e => eb b o hb e) g0 g1 g3 g4 g5⟩
  self:=fun _ _ _ _ _ ⟨⟨_,he⟩,_⟩ h => wpAny_pyIter_enum he h
noncomputable def iEnum (K:PySem.W.Frag) (tl:TA):TI:=fun σ H R => tl σ H fun vs H1 => ∃ a,vs = [.ref a] /\ (∃ xs,SqL K H1 a xs) /\ R (Ite K a) H1
theorem pi_enum {l:Expr} {tl:TA} {elts:List Expr} {k1:Nat} {tpos p pos:Pos} (hg:Gl X "enumerate") (hm:X.mg "enumerate" = none) (ha:PA X [l] tl) (hs:starEach [l] X.env = [(false,eval l X.env)]:=by rfl) :
    PI X (.Tuple elts k1 tpos) (.Call (.Name "enumerate" p) [l] [] pos) (iEnum X.K tl):=by
  intro pins s σ H R I h
  refine Call_ (ld_blt I hg hm bt_enumerate (PyProof.Rows.callWith_type1 (thn (ha pos pins s σ H _ I h) fun us s1 ⟨vs,H1,I1,r1,q1⟩ => ?_) hs rfl))
  obtain ⟨a,e,⟨xs,hq⟩,q⟩:=q1
  subst e
  cases r1 with
  | cons r rr =>
    cases rr
    cases r
    obtain ⟨its,rv,p,hz⟩:=I1.list hq
    refine call_enumerate_list p.isList fun h' he hit hsz kp => ?_
    refine wpAny_pyIter_enum he ?_
    have I2:Inv X pins σ H1 { s1 with heap:=h' }:=I1.kept (t':=s1.toks) kp
    refine ⟨_,[s1.heap.objs.size + 1,s1.heap.objs.size],_,_,H1,rfl,I2,turn_enum a _ _ (Nat.ne_of_gt (Nat.lt_succ_self _)),⟨⟨_,he⟩,hit⟩,fun b hb => ?_,q⟩
    rcases List.mem_cons.mp hb with rfl | hb
    . exact I1.fpOk (Nat.le_succ _) (I1.hok.fresh (Nat.le_succ _))
    . have hb:b = s1.heap.objs.size:=by simpa using hb
      subst hb
      exact I1.fpOk (Nat.le_refl _) (I1.hok.fresh (Nat.le_refl _))
theorem Paired.at {α β:Type} {F:α -> β -> Prop}:∀ {xs:List α} {ys:List β} {i:Nat} {x:α},Paired F xs ys -> xs[i]? = some x -> ∃ y,ys[i]? = some y /\ F x y
  | _,_,_,_,.nil,e => by simp at e
  | _,_,0,_,.cons r _,e => by simp at e; subst e; exact ⟨_,rfl,r⟩
  | _,_,i + 1,x,.cons _ t,e => by
    obtain ⟨y,h1,h2⟩:=Paired.at (i:=i) (x:=x) t (by simpa using e)
    exact ⟨y,by simpa using h1,h2⟩
end
end L2
namespace L2
open PySem PySem.Spec PyProof.Rows
section
variable {X:Cx}
end
end L2
namespace L2
section
variable {α:Type} [DecidableEq α]
noncomputable abbrev RunD (α:Type):=α×α×Rat
noncomputable abbrev EntD (α:Type):=Rat×Option (Nat×α)
noncomputable abbrev AL (α β:Type):=List (α×β)
noncomputable def aget {β:Type} (l:AL α β) (k:α):Option β:=(l.find? fun kv => decide (kv.1 = k)).map (·.2)
noncomputable def aput {β:Type} (l:AL α β) (k:α) (v:β):AL α β:=if (l.any fun kv => decide (kv.1 = k)) then l.map (fun kv => if kv.1 = k then (kv.1,v) else kv) else l ++ [(k,v)]
variable (net:List (RunD α)) (push:α -> Option Rat) (tk:Nat -> Option Rat)
variable {net push tk}
end
end L2
namespace L2
section
variable {α:Type} [DecidableEq α] {net:List (RunD α)} {push:α -> Option Rat} {tk:Nat -> Option Rat} {F:AL α (EntD α)}
end
end L2
namespace L2
section
variable {κ:Type} [DecidableEq κ]
noncomputable def lstep (m:AL κ Rat) (x:κ×Rat):AL κ Rat:=match aget m x.1 with
  | none => aput m x.1 x.2
  | some r => if x.2 < r then aput m x.1 x.2 else m
noncomputable def lst (l:List (κ×Rat)):AL κ Rat:=l.foldl lstep []
end
end L2
namespace L2
end L2
namespace L2
open PySem PySem.Spec PyProof.Rows
section
variable {X:Cx} {a b:Expr} {ta tb td ty tv:TE} {pos:Pos} {rest:List Expr} {σ:St} {H H':Hp} {Q:VK} {D:Ends} {K:PySem.W.Frag} {w:World} {v x:V}
theorem r_dnew (k:∀ p,H p = none -> Q (.ref p) (upd H p (.dK []))):tDNewK σ H Q:=k
theorem r_forE {a:Addr} {xs:List V} {g:TG} {tb:TS} (Pv:Nat -> St -> Hp -> Prop) (h0:Pv 0 σ H) (hl:∀ i σ H,i <= xs.length -> Pv i σ H -> SqL K H a xs)
    (hs:∀ i x T σ H,xs[i]? = some x -> H T = none -> Pv i σ H -> g (.ref T) σ (upd H T (.tup [.int i,x])) fun σ2 H2 => tb ⟨Pv (i + 1),D.rt,D.nx,Pv (i + 1)⟩ σ2 H2) (hd:∀ σ H,Pv xs.length σ H -> D.nx σ H):forK g tb D σ (Ite K a) H:=by
  refine ⟨fun i m σ H => m = xs.length - i /\ i <= xs.length /\ Pv i σ H,⟨_,rfl,Nat.zero_le _,h0⟩,?_⟩
  rintro i m σ H ⟨rfl,hi,p⟩
  have q:=hl i σ H hi p
  by_cases hlt:i < xs.length
  . refine .inr ⟨⟨xs,xs[i],q,by simp [hlt]⟩,Pv (i + 1),fun σ' H' q => ⟨xs.length - (i + 1),by omega,rfl,hlt,q⟩,fun x H' y => ?_⟩
    obtain ⟨T,x',rfl,hT,rfl,e⟩:=y
    exact hs i x' T σ H (e xs q) hT p
  . have:i = xs.length:=by omega
    subst this
    exact .inl ⟨⟨xs,q,Nat.le_refl _⟩,hd σ H p⟩
theorem r_iEnum {tl:TA} {R:It -> Hp -> Prop} (k:tl σ H fun vs H1 => ∃ a,vs = [.ref a] /\ (∃ xs,SqL K H1 a xs) /\ R (Ite K a) H1):iEnum K tl σ H R:=k
theorem e_K {a:Addr} {xs:List V} {R:It -> Hp -> Prop} (h:H a = some (.lst xs)) (k:R (Ite K a) H):∃ a',[V.ref a] = [.ref a'] /\ (∃ xs,SqL K H a' xs) /\ R (Ite K a') H:=⟨a,rfl,⟨xs,SqL.of h⟩,k⟩
theorem r_gtup2 {p:Addr} {x y:V} {t:TGs} {R:St -> Hp -> Prop} (h:H p = some (.tup [x,y])) (k:t [x,y] σ H R):gTup K 2 t (.ref p) σ H R:=⟨p,_,rfl,SqT.of h,rfl,k⟩
theorem r_gnil {R:St -> Hp -> Prop} (k:R σ H):gNil [] σ H R:=⟨rfl,k⟩
theorem r_gcons {t:TG} {u:TGs} {r:List V} {R:St -> Hp -> Prop} (k:t v σ H fun σ' H' => u r σ' H' R):gCons t u (v :: r) σ H R:=⟨v,r,rfl,k⟩
end
noncomputable def TK (H H':Hp):Prop:=∀ p xs,H p = some (.tup xs) -> H' p = some (.tup xs)
theorem TK.trans {H H1 H2:Hp} (a:TK H H1) (b:TK H1 H2):TK H H2:=fun p xs h => b p xs (a p xs h)
theorem Same.tk {H H':Hp} (s:Same H H'):TK H H':=fun p xs h => s _ _ h
theorem TK.lst {H:Hp} {q:Addr} {o:HO} {ys:List V} (h:H q = some (.lst ys)):TK H (upd H q o):=fun p xs e => by rw [upd_ne (ne_of e h (by intro z; cases z))]; exact e
noncomputable def FrQ (H:Hp) (v:V) (q:Rat):Prop:=∃ p,v = .ref p /\ H p = some (.tup [.int q.num,.int q.den])
theorem FrQ.tk {H H':Hp} {v:V} {q:Rat} (h:FrQ H v q) (t:TK H H'):FrQ H' v q:=let ⟨p,e,h⟩:=h; ⟨p,e,t _ _ h⟩
section
variable {α β:Type} {F G:α -> β -> Prop}
theorem Pd.imp:∀ {l:List α} {m:List β},Paired F l m -> (∀ a b,F a b -> G a b) -> Paired G l m
  | _,_,.nil,_ => .nil
  | _,_,.cons r t,f => .cons (f _ _ r) (Pd.imp t f)
theorem Pd.snoc:∀ {l:List α} {m:List β} {a:α} {b:β},Paired F l m -> F a b -> Paired F (l ++ [a]) (m ++ [b])
  | _,_,_,_,.nil,r => .cons r .nil
  | _,_,_,_,.cons q t,r => .cons q (Pd.snoc t r)
end
noncomputable def LQ {β:Type} (R:Hp -> V -> β -> Prop) (H:Hp) (l:Addr) (ds:List β):Prop:=∃ vs,H l = some (.lst vs) /\ Paired (R H) vs ds
section
variable {β:Type} {R:Hp -> V -> β -> Prop} {H H':Hp} {l d:Addr} {ds:List β} {m:List (Key×β)} {kvs:List (Key×V)}
theorem LQ.same (h:LQ R H l ds) (hR:∀ v b,R H v b -> R H' v b) (s:Same H H'):LQ R H' l ds:=let ⟨vs,a,b⟩:=h; ⟨vs,s _ _ a,Pd.imp b hR⟩
end
theorem r_nxD {D:Ends} {σ:St} {H:Hp} (k:D.nx σ H):D.nx σ H:=k
theorem r_rtD {D:Ends} {v:V} {H:Hp} (k:D.rt v H):D.rt v H:=k
section
variable {X:Cx} {σ:St} {H H':Hp} {Q:VK} {K:PySem.W.Frag} {v x y:V} {w:World}
noncomputable def rIsN:R2:=fun x y H Q => y = .non /\ Q (.bl (decide (x = .non))) H
theorem op_isN2:OpR X (compareOp .Is) rIsN:=op_isN
theorem r_isNn (k:Q (.bl true) H):rIsN .non .non H Q:=⟨rfl,k⟩
theorem r_isNi {i:Int} (k:Q (.bl false) H):rIsN (.int i) .non H Q:=⟨rfl,k⟩
noncomputable def bmK (K:PySem.W.Frag) (T:String) (r:V -> List V -> Hp -> VK -> Prop) (t:TA) (σ:St) (Q:VK):VK:=fun x H1 => tyV K T x H1 /\ t σ H1 fun xs H2 => r x xs H2 Q
theorem r_bm {T:String} {r:V -> List V -> Hp -> VK -> Prop} {to:TE} {t:TA} (k:to σ H (bmK K T r t σ Q)):tBM K T r to t σ H Q:=k
theorem r_bmL {r:V -> List V -> Hp -> VK -> Prop} {t:TA} {l:Addr} {xs:List V} (h:H l = some (.lst xs)) (k:t σ H fun vs H2 => r (.ref l) vs H2 Q):bmK K "list" r t σ Q (.ref l) H:=⟨.inl ⟨rfl,xs,SqL.of h⟩,k⟩
theorem r_bmS {r:V -> List V -> Hp -> VK -> Prop} {t:TA} {s:Str} (k:t σ H fun vs H2 => r (.str s) vs H2 Q):bmK K "str" r t σ Q (.str s) H:=⟨rfl,k⟩
theorem r_app {l:Addr} {xs:List V} (h:H l = some (.lst xs)) (hl:xs.length <= 1000) (k:Q .non (upd H l (.lst (xs ++ [y])))):rAppend (.ref l) [y] H Q:=⟨l,xs,y,rfl,rfl,h,small1000 hl,k⟩
theorem r_ext {l b:Addr} {xs zs:List V} (h:H l = some (.lst xs)) (h2:H b = some (.lst zs)) (hl:xs.length + zs.length <= 1000) (k:Q .non (upd H l (.lst (xs ++ zs)))):rExtend (.ref l) [.ref b] H Q:=⟨l,b,xs,zs,rfl,rfl,h,h2,le_line hl,k⟩
end
end L2
namespace L2
open PySem PySem.Spec PyProof.Rows
section
variable {te:TE} {Q:VK} {H:Hp} {caps:St}
end
theorem LQ.sm {β:Type} {R:Hp -> V -> β -> Prop} {H H':Hp} {l:Addr} {ds:List β} (h:LQ R H l ds) (hR:∀ {H H' v b},R H v b -> TK H H' -> R H' v b) (s:Same H H'):LQ R H' l ds:=h.same (fun v b q => hR q s.tk) s
section
variable {σ:St} {H:Hp} {Q:VK} {K:PySem.W.Frag}
end
noncomputable abbrev TRun:=Str×Str×Rat
noncomputable def names (n:List TRun):List Str:=n.map (·.1) ++ n.map (·.2.1)
theorem low_rat {t b:Int} (hb:b ≠ 0):(Rat.divInt t b).num = lowT t b /\ ((Rat.divInt t b).den:Int) = lowB t b:=rat_of hb (lowB_pos hb) (low_cop hb) (low_worth hb)
theorem FrQ.low {H:Hp} {t b:Int} {p:Addr} (hb:b ≠ 0) (h:H p = some (.tup [.int (lowT t b),.int (lowB t b)])):FrQ H (.ref p) (Rat.divInt t b):=⟨p,rfl,by rw [h,(low_rat hb).1,(low_rat hb).2]⟩
noncomputable abbrev abc:Str:=Str.ofString "abcdefghijklmnopqrstuvwxyz"
theorem abc_len:abc.length = 26:=by decide +kernel
theorem abc_at:∀ j:Nat,j < 26 -> atI abc.cps.toList (j:Int) = some (97 + j):=by decide +kernel
section
variable {σ:St} {H:Hp} {Q:VK} {K:PySem.W.Frag}
theorem r_ixS {z:Str} {i:Int} {c:Nat} (hz:z.length <= 100000) (e:atI z.cps.toList i = some c) (k:Q (.str ⟨#[c]⟩) H):rIxLT K (.str z) (.int i) H Q:=.inr (.inr ⟨z,i,c,rfl,rfl,by rw [sizeLine_eq]; omega,e,k⟩)
theorem r_addS {a b:Str} (h:a.length + b.length <= 100000) (k:Q (.str (a ++ b)) H):rAddA K (.str a) (.str b) H Q:=.inr (.inr (.inr ⟨a,b,rfl,rfl,by rw [sizeLine_eq]; omega,k⟩))
end
theorem Kp.sm {p:Addr} {H H1 H2:Hp} (k:Kp p H1 H2) (s:Same H H1) (hp:H p = none):Same H H2:=fun b o h => k _ _ (ne_of_none h hp) (s _ _ h)
noncomputable def dFr (q:Rat):Dt:=.tup [.int q.num,.int q.den]
noncomputable abbrev sA:Str:=Str.ofString "a"
noncomputable abbrev sB:Str:=Str.ofString "b"
noncomputable def n0:List TRun:=[(sA,sB,Rat.divInt 1 2)]
theorem lowT_pos {t b:Int} (ht:0 < t) (hb:0 < b):0 < lowT t b:=by
  have e:=low_worth (t:=t) (b:=b) (by omega)
  have hp:=lowB_pos (t:=t) (b:=b) (by omega)
  have:0 < lowT t b * b:=by rw [e]; exact Int.mul_pos ht hp
  exact Int.pos_of_mul_pos_left this hb
end L2
namespace L2
open PySem PySem.Spec PySem.W PySem.Calls PyProof.Rows PySem.Builtin PySem.Builtin.ObjectAttr PySem.Builtin.Getset_descriptor
structure XCls (K:Frag) (C:Addr):Prop where
  ga:findIn K (.ref C) "__getattribute__" = some (some (.builtin "BaseException.__getattribute__"))
  gt:findIn K (.ref C) "__getattr__" = some none
  ca:findIn K (.ref C) "__class__" = some (some (.builtin "object.__class__"))
  ob:subIn K (.ref C) (.type "object") = some true
  be:subIn K (.ref C) (.type "BaseException") = some true
  ic:(clsIn K C).isSome = true
theorem XCls.obj {K:Frag} {C:Addr} (Z:XCls K C):∃ c d cd sl,K.lookup C = some ⟨c,d,.cls cd,sl⟩:=by
  have q:=Z.ic
  unfold clsIn at q
  split at q
  . exact ⟨_,_,_,_,by assumption⟩
  . cases q
noncomputable def KitR (a C:Addr) (h:Heap):Prop:=∃ o,h.get? a = some o /\ o.cls = .ref C
theorem KitR.ty {a C:Addr} {h:Heap} (M:Model) (p:KitR a C h):Looks M h (typeOf (.ref a)) (.ref C):=by
  obtain ⟨o,h1,h2⟩:=p
  have q:=(Looks.ld (M:=M) (part:=some headPart) h1).andThen (f:=fun o => pure o.cls) .now
  rw [h2] at q; exact q
section
variable {prog:Program} {w:World} {A:Around} {E:Value -> Shared -> Prop} {s:Shared} {K:Frag} {x C:Addr}
theorem x_class_get {R:Result -> Shared -> Prop} {tp:Value} (Z:XCls K C) (X:K.In s.heap) (p:KitR x C s.heap) (h:R (.ok (.ret (.ref C))) s) :
    codeAny (model prog w) A (.call (.builtin "getset_descriptor.__get__") ⟨[.builtin "object.__class__",.ref x,tp],[]⟩) R s:=by
  obtain ⟨h1,gs,dw,tn,so⟩:=s
  have L0:=p.ty (model prog w)
  have L1:=looks_subIn (M:=model prog w) X Z.ob
  refine codeAny_call_builtin (h:=KF.slot_gs.check _ _ _ _ _ _ _ _ KF.type_class (KF.args_gs _ _ _) ?_) KF.slot_gs.plain KF.entry_gs
  unfold Builtin.«getset_descriptor.__get__»; unfold descrGet; rw [dga_obj]; refine wpAny_bind (wpAny_pure ?_)
  unfold descrGetter descrCheckInstance; unfold descrNameAndClass isInstance; simp only [KF.owner_class]
  repeat lk
  refine ⟨Code.quiet_builtin _ (by decide +kernel),?_⟩; refine codeAny_builtin KF.entry_class ?_; unfold Builtin.«object.__class__»; unfold shownTypeOf
  repeat lk
  exact h
theorem x_check {nameV:Value} {Q:Unit -> Shared -> Prop} (Z:XCls K C) (X:K.In s.heap) (p:KitR x C s.heap) (h:Q () s):wpAny (model prog w) A (checkBuiltinCall "BaseException.__getattribute__" ⟨[.ref x,nameV],[]⟩) Q E s:=by
  obtain ⟨h1,gs,dw,tn,so⟩:=s
  have q1:builtinKind "BaseException.__getattribute__" = some .slot:=by decide +kernel
  have q2:splitId "BaseException.__getattribute__" = some ("BaseException","__getattribute__"):=by decide +kernel
  have L0:=p.ty (model prog w)
  have L1:=looks_subIn (M:=model prog w) X Z.be
  have ha:=F.args_bexc_ga (.ref x) nameV
  simp only [checkBuiltinCall,q1,q2]
  refine wpAny_bind ?_
  . unfold isInstance
    repeat (first | lk | wp_step)
    exact h
theorem x_entry {tk:Tok} {Q:Fin -> Shared -> Prop} (Z:XCls K C) (X:K.In s.heap) (p:KitR x C s.heap) (h:Q (.done (.ret (.ref C))) s) :
    wpAny (model prog w) A (Builtin.«object.__getattribute__» ⟨[.ref x,.str "__class__" tk],[]⟩) Q E s:=by
  obtain ⟨h1,gs,dw,tn,so⟩:=s
  have L0:=p.ty (model prog w)
  have L1:=looks_findIn (M:=model prog w) X Z.ca
  have q5:=F.typeOf_object_class; have q6:=F.slot_gs_get.lookup; have q7:=F.slot_gs_set.lookup
  obtain ⟨o,hx,hc⟩:=id p
  repeat (any_goals (first | assumption | (with_reducible refine wpAny_loadPart_at hx ?_; rw [hc]) | with_reducible refine L1.here ?_ | wp_step))
  refine x_class_get Z X p ?_
  repeat any_goals (first | assumption | wp_step)
theorem x_call {tk:Tok} {R:Result -> Shared -> Prop} (Z:XCls K C) (X:K.In s.heap) (p:KitR x C s.heap) (h:R (.ok (.ret (.ref C))) s) :
    codeAny (model prog w) A (.call (.builtin "BaseException.__getattribute__") ⟨[.ref x,.str "__class__" tk],[]⟩) R s :=
  codeAny_call_builtin F.attr_ValueError.ga.plain F.entry_bexc_ga (x_check Z X p (x_entry Z X p h))
theorem x_by {tk:Tok} {Q:Value -> Shared -> Prop} (Z:XCls K C) (X:K.In s.heap) (p:KitR x C s.heap) (h:Q (.ref C) s) :
    wpAny (model prog w) A (getAttrBy (.ref x) (.str "__class__" tk) false) Q E s:=by
  obtain ⟨h1,gs,dw,tn,so⟩:=s
  have L0:=p.ty (model prog w)
  have L1:=looks_findIn (M:=model prog w) X Z.ga
  have L2:=looks_findIn (M:=model prog w) X Z.gt
  have f3:=F.attr_ValueError.ga.bind (.ref x)
  have n2:(Value.builtin "BaseException.__getattribute__" == Value.builtin "object.__getattribute__") = false:=by decide +kernel
  have n1:(onTheHeap (Value.ref C) && Value.builtin "BaseException.__getattribute__" == Value.builtin "object.__getattribute__") = false:=by rw [n2]; rfl
  have n0:(false && onTheHeap (Value.builtin "BaseException.__getattribute__")) = false:=rfl
  obtain ⟨o,hx,hc⟩:=id p
  repeat (any_goals (first | assumption | (with_reducible refine wpAny_loadPart_at hx ?_; rw [hc]) | with_reducible refine L1.here ?_ | with_reducible refine L2.here ?_ | wp_step))
  refine x_call Z X p ?_
  repeat any_goals (first | assumption | wp_step)
theorem x_cls {Q:Option Value -> Shared -> Prop} (Z:XCls K C) (X:K.In s.heap) (p:KitR x C s.heap) (h:Q (some (.ref C)) { s with toks:=s.toks + 1 }):wpAny (model prog w) A (getAttr? (.ref x) "__class__") Q E s:=by
  obtain ⟨h1,gs,dw,tn,so⟩:=s
  unfold getAttr? getAttrBy?
  exact wpAny_bind (wpAny_mkText (wpAny_bind (wpAny_attempt (x_by (s:=⟨h1,gs,dw,tn + 1,so⟩) Z X p (wpAny_pure h)))))
end
theorem kitx_exc {K:Frag} {a C:Addr} (Z:XCls K C):KitX K (.ref a) (.ref C) (KitR a C) where
  ty:=fun M h _ p => p.ty M
  it:=fun M h X _ => by
    obtain ⟨c,d,cd,sl,ho⟩:=Z.obj
    intro A' Q' E' s' k q
    unfold isType loadHead
    exact wpAny_bind (wpAny_loadPart (k C _ (X C _ ho)) (wpAny_pure q))
  ne:=fun h b _ _ _ _ X hb => by
    obtain ⟨c,d,cd,sl,ho⟩:=Z.obj
    refine Bool.eq_false_iff.mpr ?_
    intro q
    obtain rfl:C = b:=Value.ref.inj (beq_iff_eq.mp q)
    rw [X C _ ho] at hb; cases hb
  ca:=fun X p k => x_cls Z X p k
end L2
namespace L2
open PySem PySem.Spec PyProof.Rows
structure Kpt (fs xs:List Addr) (h h':Heap):Prop where
  keep:∀ b o,h.get? b = some o -> b ∉ fs -> b ∉ xs -> h'.get? b = some o
  slot:∀ b o,h.get? b = some o -> b ∈ fs -> b ∉ xs -> ∃ sl,h'.get? b = some { o with slots:=sl }
section
variable {fs fs' xs xs':List Addr} {h h0 h1 h2 h':Heap} {H H':Hp} {P:Program} {w:World}
theorem Kpt.there (k:Kpt fs xs h h') {b:Addr} {o:Obj} (e:h.get? b = some o) (n:b ∉ xs):∃ sl,h'.get? b = some { o with slots:=sl }:=by
  by_cases hb:b ∈ fs
  . exact k.slot b o e hb n
  . exact ⟨o.slots,k.keep b o e hb n⟩
theorem Kpt.mv {L:Addr} (k:Kpt (L :: fs) xs h h'):Kpt fs (L :: xs) h h' where
  keep:=fun b o e n m => k.keep b o e (fun z => (List.mem_cons.mp z).elim (fun q => m (q ▸ List.mem_cons_self)) n) fun z => m (List.mem_cons_of_mem _ z)
  slot:=fun b o e n m => k.slot b o e (List.mem_cons_of_mem _ n) fun z => m (List.mem_cons_of_mem _ z)
theorem ObjOk.at {a:Addr} {o:HO} (x:ObjOk P w H h a o):∃ ob,h.get? a = some ob:=by
  cases o with
  | lst xs => obtain ⟨_,_,_,_,e⟩:=x; exact ⟨_,e⟩
  | tup xs => obtain ⟨_,_,_,⟨o,e,_⟩⟩:=x; exact ⟨_,e⟩
  | dK kvs => obtain ⟨_,_,_,_,o,_,_,e,_⟩:=x; exact ⟨_,e⟩
  | dT kvs => obtain ⟨_,_,_,_,o,_,_,e,_⟩:=x; exact ⟨_,e⟩
  | set S n => obtain ⟨o,_,_,_,e,_⟩:=x; exact ⟨_,e⟩
  | ins C dx fs => obtain ⟨_,_,_,e,_⟩:=x; exact ⟨_,e⟩
  | own y => obtain ⟨_,e⟩:=x; exact ⟨_,e⟩
  | xd fs => obtain ⟨_,⟨_,_,_,e,_⟩,_⟩:=x; exact ⟨_,e⟩
  | rng lo hi => obtain ⟨_,_,_,e⟩:=x; exact ⟨_,e⟩
  | frz ob u => obtain ⟨e,_⟩:=x; exact ⟨_,e⟩
  | tbl ps => exact ⟨_,(show h.get? a = some _ from x)⟩
  | met f y => exact ⟨_,(show h.get? a = some _ from x)⟩
  | ext φ => obtain ⟨_,⟨_,e⟩,_⟩:=x; exact ⟨_,e⟩
theorem HOk.none_of (x:HOk P w H h) {a:Addr} (e:h.get? a = none):H a = none:=by
  cases q:H a with
  | none => rfl
  | some o =>
    obtain ⟨ob,z⟩:=(x a o q).at
    rw [e] at z; cases z
theorem HOk.kpt (ok:HOk P w H h) (k:Kpt fs xs h h') (hf:∀ b ∈ fs,H b = none) (hx:∀ b ∈ xs,H b = none):HOk P w H h':=fun a o e => by
  have key:∀ b u,H b = some u -> b ∉ fs /\ b ∉ xs:=fun b u q => ⟨fun z => (by rw [hf b z] at q; cases q),fun z => (by rw [hx b z] at q; cases q)⟩
  refine (ok a o e).stay (fun b u hb q => ?_) (fun _ q => q) fun _ _ q => q
  rcases hb with rfl | hb
  . exact k.keep b u q (key b o e).1 (key b o e).2
  . exact k.keep b u q (key b _ hb).1 (key b _ hb).2
theorem HOk.track (ok:HOk P w H h) {a:Addr} {o:HO} (hn:H a = none) (new:ObjOk P w (upd H a o) h a o):HOk P w (upd H a o) h:=fun b u q => by
  by_cases hb:b = a
  . subst hb; rw [upd_same] at q; cases q; exact new
  . rw [upd_ne hb] at q
    exact (ok b u q).stay (fun _ _ _ z => z) (fun c r => by rw [upd_ne (ne_of_none r hn)]; exact r) fun c xs r => by rw [upd_ne (ne_of_none r hn)]; exact r
theorem Un.kpt (u:Un fs [] H H' h0 h) (k:Kpt fs xs h h') (hx:∀ b ∈ xs,h0.get? b = none):Un fs [] H H' h0 h':=by
  have nx:∀ b o,h0.get? b = some o -> b ∉ xs:=fun b o e z => by rw [hx b z] at e; cases e
  refine ⟨fun b o e n hb he => k.keep b o (u.keep b o e n hb he) hb (nx b o e),fun b o e n hb he => ?_,u.free,fun b o e he => ?_,u.tups,u.frzs,u.tbls⟩
  . obtain ⟨sl,q⟩:=u.slot b o e n hb he
    obtain ⟨sl',q'⟩:=k.slot b _ q hb (nx b o e)
    exact ⟨sl',q'⟩
  . obtain ⟨o',q⟩:=u.there b o e he
    obtain ⟨sl,q'⟩:=k.there q (nx b o e)
    exact ⟨_,q'⟩
theorem Un.track {ex:List Addr} {a:Addr} {o:HO} (u:Un fs ex H H' h h') (hn:H' a = none) (hh:h.get? a = none):Un fs ex H (upd H' a o) h h' where
  keep:=u.keep
  slot:=u.slot
  free:=fun b ob e n hx => by rw [upd_ne (fun z => by rw [z,hh] at e; cases e)]; exact u.free b ob e n hx
  there:=u.there
  tups:=fun b xs q => by rw [upd_ne (ne_of_none (u.tups b xs q) hn)]; exact u.tups b xs q
  frzs:=fun b ob xs q => by rw [upd_ne (ne_of_none (u.frzs b ob xs q) hn)]; exact u.frzs b ob xs q
  tbls:=fun b ps q => by
    obtain ⟨m,e⟩:=u.tbls b ps q
    exact ⟨m,by rw [upd_ne (ne_of_none e hn)]; exact e⟩
theorem Un.was (u:Un fs [] H H' h h') {a:Addr} (e:h'.get? a = none):h.get? a = none:=by
  cases q:h.get? a with
  | none => rfl
  | some o =>
    obtain ⟨o',z⟩:=u.there a o q (by simp)
    rw [e] at z; cases z
end
noncomputable def ClsD (o:Obj) (C:Addr) (od:Option Addr):Prop:=o.cls = .ref C /\ o.dict = od
theorem Obj.dict_mapF (o:Obj) (f):(o.mapFields f).dict = o.dict:=by
  unfold Obj.mapFields
  split <;> rfl
theorem ClsD.map {o:Obj} {C:Addr} {od:Option Addr} (h:ClsD o C od) (f):ClsD (o.mapFields f) C od:=⟨(Obj.cls_mapFields _ _).trans h.1,(Obj.dict_mapF _ _).trans h.2⟩
noncomputable def FlyA (x T C:Addr) (od:Option Addr) (fl:Value) (h:Heap):Prop:=∃ oe vs oT ts,h.get? x = some oe /\ ClsD oe C od /\ oe.data = .fields vs /\ vs[1]? = some (.ref T) /\ vs[2]? = some .none /\ T ≠ x /\ h.get? T = some oT /\ oT.data = .fields ts /\ ts[3]? = some fl
noncomputable abbrev Fly (x T C:Addr) (od:Option Addr) (h:Heap):Prop:=FlyA x T C od .none h
noncomputable def ExR (x C:Addr) (od:Option Addr) (h:Heap):Prop:=∃ o vs,h.get? x = some o /\ ClsD o C od /\ o.data = .fields vs /\ vs[2]? = some .none
theorem ExR.kitR {x C:Addr} {od:Option Addr} {h:Heap} (f:ExR x C od h):KitR x C h:=by
  obtain ⟨oe,_,e,c,_⟩:=f
  exact ⟨oe,e,c.1⟩
theorem FlyA.exR {x T C:Addr} {od:Option Addr} {fl:Value} {h:Heap} (f:FlyA x T C od fl h):ExR x C od h:=by
  obtain ⟨oe,vs,_,_,e,c,d,_,z,_⟩:=f
  exact ⟨oe,vs,e,c,d,z⟩
theorem Kpt.refl {fs xs:List Addr} {h:Heap}:Kpt fs xs h h:=⟨fun _ _ e _ _ => e,fun _ o e _ _ => ⟨o.slots,e⟩⟩
theorem Kpt.upd {fs xs:List Addr} {h h1:Heap} {a:Addr} (k:Kpt fs xs h h1) (f:Obj -> Obj) (ha:a ∈ xs ∨ h.get? a = none):Kpt fs xs h (h1.update a f):=by
  have na:∀ b o,h.get? b = some o -> b ∉ xs -> a ≠ b:=fun b o e n z => by
    rcases ha with q | q
    . exact n (z ▸ q)
    . rw [z,e] at q; cases q
  exact ⟨fun b o e n m => (Heap.get?_update_other _ _ (na b o e m)).trans (k.keep b o e n m),fun b o e n m => (k.slot b o e n m).imp fun sl q => (Heap.get?_update_other _ _ (na b o e m)).trans q⟩
theorem Kpt.push {fs xs:List Addr} {h h1:Heap} (k:Kpt fs xs h h1) (o:Obj):Kpt fs xs h (h1.push o) :=
  ⟨fun b u e n m => Heap.get?_push_of_some _ (k.keep b u e n m),fun b u e n m => (k.slot b u e n m).imp fun sl q => Heap.get?_push_of_some _ q⟩
section
variable {M:Model} {A:Around} {E:Value -> Shared -> Prop} {s:Shared} {base:Heap} {env:Env} {outer l:List Env} {L x T C:Addr} {od:Option Addr} {Q:Unit -> Shared -> Prop}
noncomputable def newHead (env:Env) (L x:Addr) (head:Value) (b:Bool):Sem Unit:=frameOf env >>= fun a => entryPlaceOf L b >>= fun pl => EntryCells.newEntry head a .none (rawInt L) .none pl >>= fun v => setField (.ref x) 1 v
theorem fl_entry {oe:Obj} {vs:Array Value} {head:Value} {b:Bool} (hfr:A.frames = some (env :: outer)) (hf:env.frame = some L) (hl:s.heap.FunFrames base (env :: outer)) (he:s.heap.get? x = some oe) (hc:ClsD oe C od) (hd:oe.data = .fields vs)
    (h1:1 < vs.size) (h2:vs[2]? = some .none) (k:∀ h' T',FlyA x T' C od (rawInt L) h' -> s.heap.get? T' = none -> Kpt (frs (env :: outer)) [x] s.heap h' -> Q () { s with heap:=h' }):wpAny M A (newHead env L x head b) Q E s:=by
  have nfr:x ∉ frs (env :: outer):=fun hm => by
    obtain ⟨_,o,ho,hn⟩:=hl.mem hm
    rw [he] at ho; cases ho
    exact hn vs hd
  refine wpAny_bind (wpAny_frameOf_fun hfr hl hf fun g hg => wpAny_bind (wpAny_entryPlaceOf fun pl hpl => wpAny_bind ?_))
  unfold EntryCells.newEntry newFields
  refine wpAny_newObj_type ?_ (hpl.sizeOk5 _ _ _ _ _)
  generalize hts:([head,Value.ref L,Value.none,rawInt L,Value.none] ++ (if pl.isEmpty then List.replicate 6 Value.none else pl)).toArray = ts
  have e1:g.get? x = some oe:=(hg.2.1 x nfr).trans he
  have nT:g.objs.size ≠ x:=Nat.ne_of_gt (Heap.lt_size e1)
  have e2:=Heap.get?_push_of_some (h:=g) { cls:=.type "traceback",dict:=none,data:=.fields ts } e1
  refine wpAny_setField e2 hd h1 (k _ g.objs.size ?_ ?_ ?_)
  . have d3:=Obj.data_mapFields hd (·.setIfInBounds 1 (Value.ref g.objs.size))
    refine ⟨_,_,_,ts,Heap.get?_update_self _ e2 (Obj.isFreed_of_fields d3),hc.map _,d3,by simp [h1],?_,nT,(Heap.get?_update_other _ _ (Ne.symm nT)).trans (Heap.get?_push_size g rfl),rfl,by rw [← hts]; simp⟩
    rw [Array.getElem?_setIfInBounds_ne (by decide)]; exact h2
  . exact Heap.get?_none_of_le (Nat.le_of_eq hg.1.symm)
  . refine Kpt.upd (Kpt.push ⟨fun b o e n m => (hg.2.1 b n).trans e,fun b o e n m => hg.2.2 b o e⟩ _) _ (.inl (by simp))
theorem fl_land {fl:Value} {h0:Heap} {fs:List Addr} (f:FlyA x T C od fl s.heap) (k0:Kpt fs [x,T] h0 s.heap ∨ (Kpt fs [x] h0 s.heap /\ h0.get? T = none))
    (k:∀ h',Fly x T C od h' -> (Kpt fs [x,T] h0 h') -> (h0.get? T = none -> Kpt fs [x] h0 s.heap -> Kpt fs [x] h0 h') -> Q () { s with heap:=h' }):wpAny M A (setFlight (.ref x) none) Q E s:=by
  obtain ⟨oe,vs,oT,ts,e1,e2,e3,e4,e5,e6,e7,e8,e9⟩:=f
  have sz:3 < ts.size:=(Array.getElem?_eq_some_iff.mp e9).1
  unfold setFlight
  refine wpAny_bind (wpAny_field e1 e3 e4 ?_)
  rw [if_pos (by simp)]
  have d3:=Obj.data_mapFields e8 (·.setIfInBounds 3 ((none:Option Addr).elim Value.none fun f => rawInt f))
  refine wpAny_setField e7 e8 sz (k _ ⟨oe,vs,_,_,(Heap.get?_update_other _ _ e6).trans e1,e2,e3,e4,e5,e6,Heap.get?_update_self _ e7 (Obj.isFreed_of_fields d3),d3,by simp [sz]⟩ ?_ fun q z => z.upd _ (.inr q))
  rcases k0 with z | ⟨z,q⟩
  . exact z.upd _ (.inl (by simp))
  . exact Kpt.upd ⟨fun b o e n m => z.keep b o e n fun y => m (by simp at y; simp [y]),fun b o e n m => z.slot b o e n fun y => m (by simp at y; simp [y])⟩ _ (.inl (by simp))
theorem fl_note0 {oe:Obj} {vs:Array Value} (hfr:A.frames = some (env :: outer)) (hf:env.frame = some L) (hl:s.heap.FunFrames base (env :: outer)) (he:s.heap.get? x = some oe) (hc:ClsD oe C od) (hd:oe.data = .fields vs)
    (h1:vs[1]? = some .none) (h2:vs[2]? = some .none) (k:∀ h' T',FlyA x T' C od (rawInt L) h' -> s.heap.get? T' = none -> Kpt (frs (env :: outer)) [x] s.heap h' -> Q () { s with heap:=h' }):wpAny M A (noteFrame (.ref x) env) Q E s:=by
  unfold noteFrame
  simp only [hf]
  refine wpAny_bind (wpAny_field he hd h1 ?_)
  rw [if_neg (by decide)]
  exact fl_entry hfr hf hl he hc hd (Array.getElem?_eq_some_iff.mp h1).1 h2 k
theorem fl_note1 (hfr:A.frames = some (env :: outer)) (hf:env.frame = some L) (hl:s.heap.FunFrames base (env :: outer)) (f:Fly x T C od s.heap)
    (k:∀ h' T',FlyA x T' C od (rawInt L) h' -> s.heap.get? T' = none -> Kpt (frs (env :: outer)) [x,T] s.heap h' -> Q () { s with heap:=h' }):wpAny M A (noteFrame (.ref x) env) Q E s:=by
  obtain ⟨oe,vs,oT,ts,e1,e2,e3,e4,e5,e6,e7,e8,e9⟩:=f
  unfold noteFrame
  simp only [hf]
  refine wpAny_bind (wpAny_field e1 e3 e4 ?_)
  rw [if_pos (by simp)]
  refine wpAny_bind (wpAny_field e7 e8 e9 ?_)
  rw [if_neg (by simp [rawInt])]
  refine wpAny_bind (wpAny_setField e7 e8 (Array.getElem?_eq_some_iff.mp e9).1 ?_)
  have oth:∀ b,b ≠ T -> (s.heap.update T (Obj.mapFields (·.setIfInBounds 3 Value.none))).get? b = s.heap.get? b:=fun b hb => Heap.get?_update_other _ _ (Ne.symm hb)
  have hl':(s.heap.update T (Obj.mapFields (·.setIfInBounds 3 Value.none))).FunFrames base (env :: outer):=hl.of_keeps fun b o hb hn => ⟨o,(oth b fun z => by rw [z,e7] at hb; cases hb; exact hn ts e8).trans hb,rfl⟩
  refine fl_entry (s:={ s with heap:=s.heap.update T (Obj.mapFields (·.setIfInBounds 3 Value.none)) }) hfr hf hl' ((oth x (Ne.symm e6)).trans e1) e2 e3 (Array.getElem?_eq_some_iff.mp e4).1 e5 fun h' T' f' n' k' => k h' T' f' ?_ ?_
  . cases z:s.heap.get? T' with
    | none => rfl
    | some o =>
      exfalso
      by_cases q:T' = T
      . have d3:=Obj.data_mapFields e8 (·.setIfInBounds 3 Value.none)
        have:=Heap.get?_update_self (Obj.mapFields (·.setIfInBounds 3 Value.none)) e7 (Obj.isFreed_of_fields d3)
        rw [← q,show Heap.get? (s.heap.update T' _) T' = none from q ▸ n'] at this; cases this
      . have:=(oth T' q).trans z
        rw [show Heap.get? (s.heap.update T _) T' = none from n'] at this; cases this
  . refine ⟨fun b o e n m => k'.keep b o ((oth b fun z => m (by simp [z])).trans e) n fun y => m (by simp at y; simp [y]),fun b o e n m => k'.slot b o ((oth b fun z => m (by simp [z])).trans e) n fun y => m (by simp at y; simp [y])⟩
theorem fly_leave (hfr:A.frames = some (env :: outer)) (hf:env.frame = some L) (hl:s.heap.FunFrames base (env :: outer)) (f:Fly x T C od s.heap)
    (k:∀ h' T',Fly x T' C od h' -> (T' = T ∨ s.heap.get? T' = none) -> Kpt (frs (env :: outer)) [x,T] s.heap h' -> Q () { s with heap:=h' }):wpAny M A (leaving env (.ref x)) Q E s:=by
  unfold leaving
  refine wpAny_bind (fl_note1 hfr hf hl f fun h1 T1 f1 n1 k1 => ?_)
  refine fl_land (s:={ s with heap:=h1 }) (h0:=h1) (fs:=[]) f1 (.inl .refl) fun h2 f2 k2 _ => k h2 T1 f2 (.inr n1) ?_
  have nT:∀ b o,s.heap.get? b = some o -> b ∉ [x,T] -> b ∉ [x,T1]:=fun b o e m z => by
    rcases List.mem_cons.mp z with z | z
    . exact m (by simp [z])
    . rw [List.mem_singleton.mp z,n1] at e; cases e
  exact ⟨fun b o e n m => k2.keep b o (k1.keep b o e n m) (by simp) (nT b o e m),fun b o e n m => (k1.slot b o e n m).imp fun sl q => k2.keep b _ q (by simp) (nT b o e m)⟩
theorem fly_note (hfr:A.frames = some (env :: outer)) (hf:env.frame = some L) (hl:s.heap.FunFrames base (env :: outer)) (f:Fly x T C od s.heap)
    (k:∀ h' T',Fly x T' C od h' -> (T' = T ∨ s.heap.get? T' = none) -> Kpt (frs (env :: outer)) [x,T] s.heap h' -> Q () { s with heap:=h' }) :
    wpAny M A (noteFrame (.ref x) env) (fun _ s₂ => wpAny M A (setFlight (.ref x) none) Q E s₂) E s:=by
  refine fl_note1 hfr hf hl f fun h1 T1 f1 n1 k1 => ?_
  refine fl_land (s:={ s with heap:=h1 }) (h0:=h1) (fs:=[]) f1 (.inl .refl) fun h2 f2 k2 _ => k h2 T1 f2 (.inr n1) ?_
  have nT:∀ b o,s.heap.get? b = some o -> b ∉ [x,T] -> b ∉ [x,T1]:=fun b o e m z => by
    rcases List.mem_cons.mp z with z | z
    . exact m (by simp [z])
    . rw [List.mem_singleton.mp z,n1] at e; cases e
  exact ⟨fun b o e n m => k2.keep b o (k1.keep b o e n m) (by simp) (nT b o e m),fun b o e n m => (k1.slot b o e n m).imp fun sl q => k2.keep b _ q (by simp) (nT b o e m)⟩
theorem fly_again (f:Fly x T C od s.heap) (k:∀ h',Fly x T C od h' -> Kpt (frs l) [x,T] s.heap h' -> Q () { s with heap:=h' }):wpAny M A (setFlight (.ref x) none) Q E s :=
  fl_land f (.inl (Kpt.refl (fs:=frs l))) fun h' f' k' _ => k h' f' k'
theorem fly_first {oe:Obj} {vs:Array Value} (hfr:A.frames = some (env :: outer)) (hf:env.frame = some L) (hl:s.heap.FunFrames base (env :: outer)) (he:s.heap.get? x = some oe) (hc:ClsD oe C od) (hd:oe.data = .fields vs)
    (h1:vs[1]? = some .none) (h2:vs[2]? = some .none)
    (k:∀ h' T',Fly x T' C od h' -> s.heap.get? T' = none -> Kpt (frs (env :: outer)) [x] s.heap h' -> Q () { s with heap:=h' }):wpAny M A (leaving env (.ref x)) Q E s:=by
  unfold leaving
  refine wpAny_bind (fl_note0 hfr hf hl he hc hd h1 h2 fun g T1 f1 n1 k1 => ?_)
  exact fl_land (s:={ s with heap:=g }) f1 (.inr ⟨k1,n1⟩) fun h2 f2 _ k2 => k h2 T1 f2 n1 (k2 n1 k1)
end
end L2
namespace L2
open PySem PySem.Spec PyProof.Rows
noncomputable def excO (x C:Addr) (od:Option Addr):HO:=.ext (ExR x C od)
theorem excO_ok {P:Program} {w:World} {H:Hp} {h:Heap} {x C:Addr} {od:Option Addr} (k:ExR x C od h):ObjOk P w H h x (excO x C od) :=
  ⟨k,(let ⟨o,_,e,_⟩:=k; ⟨o,e⟩),fun _ _ ⟨o,vs,e,c⟩ kp => ⟨o,vs,kp o e,c⟩⟩
noncomputable def CXe (P:Program) (w:World):CXT:=fun outer H s E e s' => ∃ x T C od H',e = Value.ref x /\ s'.os = s.os /\ AllBare s'.gens /\ Un (frs outer) [] H H' s.heap s'.heap /\ HOk P w H' s'.heap /\
  s.heap.get? x = none /\ s.heap.get? T = none /\ H' x = none /\ H' T = none /\ Fly x T C od s'.heap /\ E (.ref C) od H'
section
variable {P:Program} {w:World} {K:PySem.W.Frag} {mg:Str -> Option Value} {base:Heap} {N:List Str} {qual:Str} {scope:Scope} {f:Addr} {cd:Value} {A:Around} {outer:List Env} {s:Shared} {H:Hp} {E:XK}
theorem passX:Passes (CXe P w) (cxOf (CXe P w) P w K mg base N qual scope f cd A outer s H E) E:=by
  intro pins σ H1 s1 e s2 I hx
  obtain ⟨x,T,C,od,H',rfl,ho,hg,un,hok,nx,nT,hx,hT,fl,q⟩:=hx
  have I2:=I.call' (ch:=[]) ho un hok hg (fun b z => absurd z (by simp))
  have u1:Un (frs outer) [] H H1 s.heap s1.heap:=I.base
  have u2:Un (frs outer) [] H H' s.heap s2.heap:=I2.base
  refine fly_leave I2.ok.frames rfl I2.stack fl fun h2 T2 fl2 n2 k => ?_
  have k':Kpt (s.heap.objs.size :: frs outer) [x,T] s2.heap h2:=k
  have hT2:s.heap.get? T2 = none /\ H' T2 = none:=by
    rcases n2 with z | z
    . rw [z]; exact ⟨u1.was nT,hT⟩
    . exact ⟨u2.was z,hok.none_of z⟩
  refine ⟨x,T2,C,od,H',rfl,I2.os,I2.bare,u2.kpt k'.mv fun b hb => ?_,hok.kpt k' (fun b hb => I2.stkFree b hb) (fun b hb => ?_),u1.was nx,hT2.1,hx,hT2.2,fl2,q⟩
  . rcases List.mem_cons.mp hb with z | z
    . rw [z]; exact Heap.get?_none_of_le (Nat.le_refl _)
    . rcases List.mem_cons.mp z with z | z
      . rw [z]; exact u1.was nx
      . rw [List.mem_singleton.mp z]; exact u1.was nT
  . rcases List.mem_cons.mp hb with z | z
    . rw [z]; exact hx
    . rw [List.mem_singleton.mp z]; exact hT
theorem passN {X:Cx}:Passes (CXe P w) X E0:=fun _ _ _ _ _ _ _ h => by
  obtain ⟨_,_,_,_,_,_,_,_,_,_,_,_,_,_,_,q⟩:=h
  exact q.elim
end
def bmVE:List Value:=[.type "ValueError",.type "Exception",.type "BaseException",.type "object"]
end L2
namespace L2
open PySem PySem.Spec PyProof.Rows
structure OkfX (P:Program) (w:World) (K:PySem.W.Frag) (mg:Str -> Option Value) (base:Heap) (k:Nat) (x:Str) (ps:List Str) (dvs:List V) (sp:Sp):Prop where
  ex:∃ (f:Addr) (fd:FuncData),mg x = some (.ref f) /\ PySem.W.keepIn K (.ref f) = true /\ Binds K fd ps [] /\ (∃ ds,Vals dvs ds /\ Binds K fd ps ds) /\ FnOk P w K mg base (CXe P w) k f fd ps sp
section
variable {P:Program} {w:World} {K:PySem.W.Frag} {mg:Str -> Option Value} {base:Heap} {j k:Nat} {x:Str} {st:Stmt} {N ps:List Str} {dvs:List V} {sp:Sp}
theorem OkfX.mono (o:OkfX P w K mg base j x ps dvs sp) (h:j <= k):OkfX P w K mg base k x ps dvs sp :=
  let ⟨f,fd,a,b,c,e,d⟩:=o.ex; ⟨f,fd,a,b,c,e,d.mono h⟩
theorem OkfX.of (d:Df K mg x st ps) (S:FnScope N ps (defScope st)) (len:∀ vs H Q E,sp vs H Q E -> vs.length = ps.length)
    (hbody:∀ (f:Addr) (cdv:Value) (A:Around) (outer:List Env) (s:Shared) (H:Hp) (vs:List V) (Q:VK) (E:XK),Room k (A.deeper (envOfC x (defScope st) s.heap.objs.size f cdv)) -> sp vs H Q E ->
      ∃ t,PSs (cxOf (CXe P w) P w K mg base N x (defScope st) f cdv A outer s H E) (defBody st) t /\ t { nx:=fun _ H' => Q .non H',rt:=Q } (start N vs) H):OkfX P w K mg base (k + 1) x ps [] sp:=by
  obtain ⟨f,fd,⟨oc,od,dV,kV,doc,pm,an,cdv,ct,osl,rfl,lk,hcd⟩,kp,a,b⟩:=d.ex
  exact ⟨f,_,a,kp,b,⟨[],.nil,b⟩,fn_of lk hcd S len fun A outer s H vs Q E hr hsp => hbody f cdv A outer s H vs Q E hr hsp⟩
end
section
variable {X:Cx} {k:Nat} {x:Str} {ps:List Str} {dvs:List V} {sp:Sp} {p pos:Pos} {e:Expr} {es:List Expr} {t:TA} {E:XK}
theorem pe_callX (o:OkfX X.prog X.w X.K X.mg X.base k x ps dvs sp) (hr:Room k X.A) (hg:Gl X x) (hx:Passes (CXe X.prog X.w) X E) (ha:PA X (e :: es) t) (hdb:(x == ("__debug__":Str)) = false:=by decide)
    (he:starEach (e :: es) X.env = (false,eval e X.env) :: starEach es X.env:=by rfl) (hpl:(backTo pos (starEach es X.env)).any (·.1) = false:=by rfl) :
    PE X (.Call (.Name x p) (e :: es) [] pos) (tCall sp [] E t):=by
  obtain ⟨f,fd,a,b,c,_,d⟩:=o.ex
  exact pe_call d hr hg a b c .nil hx ha hdb he hpl
end
theorem PS.nox {X:Cx} {st:Stmt} {t:TS} (h:PS X.nox st t):PS X st t:=fun pins s σ H D I hw =>
  wpAny_mono (h pins s σ H D (I.wish _) hw) (fun _ _ q => q.unwish) fun _ _ z => False.elim z
structure Frsh (X:Cx) (pins:List (Addr×Obj)) (H:Hp) (a:Addr):Prop where
  h:H a = none
  s:X.s₀.heap.get? a = none
  l:a ≠ X.env.locals
  c:∀ n c,X.env.cells.lookup n = some c -> c ≠ a
  p:∀ p ∈ X.pn ++ pins,p.1 ≠ a
theorem Inv.kpt {X:Cx} {pins:List (Addr×Obj)} {σ:St} {H:Hp} {s:Shared} {xs:List Addr} {h':Heap} (I:Inv X pins σ H s) (k:Kpt (frs X.stack) xs s.heap h') (hx:∀ b ∈ xs,Frsh X pins H b):Inv X pins σ H { s with heap:=h' }:=by
  have neL:∀ b o,X.s₀.heap.get? b = some o -> b ≠ X.env.locals:=fun b o e => Nat.ne_of_lt (Nat.lt_of_lt_of_le (Heap.lt_size e) I.ok.above)
  have nX:∀ b o,X.s₀.heap.get? b = some o -> b ∉ xs:=fun b o e z => by rw [(hx b z).s] at e; cases e
  have nS:∀ b,b ≠ X.env.locals -> b ∉ X.fs -> b ∉ frs X.stack:=fun b h1 h2 z => (List.mem_cons.mp (I.stkSub b z)).elim h1 h2
  have lX:X.env.locals ∉ xs:=fun z => (hx _ z).l rfl
  have cX:∀ n c,X.env.cells.lookup n = some c -> c ∉ xs:=fun n c e z => (hx _ z).c n c e rfl
  have cellK:∀ x c,X.env.cells.lookup x = some c -> ∀ v,s.heap.IsCell c v -> h'.IsCell c v:=fun x c e v ⟨o,ho,hd⟩ => by
    obtain ⟨sl,q⟩:=k.there ho (cX x c e)
    exact ⟨_,q,hd⟩
  refine ⟨I.ok,I.os,I.bare,⟨fun b o e n hb hx => ?_,fun b o e n hb hx => ?_,I.base.free,fun b o e hx => ?_,I.base.tups,I.base.frzs,I.base.tbls⟩,?_,fun x c e => ?_,I.free,I.freeC,fun p hp => ?_,I.hok.kpt k (fun b hb => I.stkFree b hb) fun b hb => (hx b hb).h,I.len⟩
  . exact k.keep b o (I.base.keep b o e n hb hx) (nS b (neL b o e) hb) (nX b o e)
  . obtain ⟨sl,q⟩:=I.base.slot b o e n hb hx
    obtain ⟨sl',q'⟩:=k.there q (nX b o e)
    exact ⟨sl',q'⟩
  . obtain ⟨o',q⟩:=I.base.there b o e hx
    obtain ⟨sl',q'⟩:=k.there q (nX b o e)
    exact ⟨_,q'⟩
  . obtain ⟨m,⟨o,es,ep,ho,r⟩,hl⟩:=I.loc
    obtain ⟨sl,q⟩:=k.there ho lX
    refine ⟨m,⟨_,es,ep,q,r⟩,fun i x v e1 e2 e3 => ?_⟩
    obtain ⟨u,rv,l⟩:=hl i x v e1 e2 e3
    refine ⟨u,rv,?_⟩
    rcases l with l | ⟨kk,c,e,z⟩
    . exact .inl l
    . exact .inr ⟨kk,c,e,cellK x c e _ z⟩
  . obtain ⟨v,z⟩:=I.cell x c e
    exact ⟨v,cellK x c e v z⟩
  . obtain ⟨e,n,ne,nf,d⟩:=I.pin p hp
    exact ⟨k.keep p.1 p.2 e (nS _ ne nf) (fun z => (hx _ z).p p hp rfl),n,ne,nf,d⟩
theorem Inv.frsh {X:Cx} {pins:List (Addr×Obj)} {σ:St} {H H':Hp} {s:Shared} {a:Addr} (I:Inv X pins σ H s) (hex:X.ex = []) (e:s.heap.get? a = none) (h:H' a = none):Frsh X pins H' a where
  h:=h
  s:=by
    have u:Un X.fs [] X.H₀ H X.s₀.heap s.heap:=hex ▸ I.base
    exact u.was e
  l:=fun z => by
    obtain ⟨m,⟨o,es,ep,ho,r⟩,_⟩:=I.loc
    rw [← z,e] at ho; cases ho
  c:=fun n c q z => by
    obtain ⟨v,o,ho,hd⟩:=I.cell n c q
    rw [z,e] at ho; cases ho
  p:=fun p hp z => by
    obtain ⟨q,_⟩:=I.pin p hp
    rw [z,e] at q; cases q
noncomputable def caught (X:Cx) (pins:List (Addr×Obj)) (σ:St) (E:XK) (e:Value) (s':Shared):Prop:=∃ x T C od H',e = .ref x /\ Inv X pins σ H' s' /\ Fly x T C od s'.heap /\ Frsh X pins H' x /\ Frsh X pins H' T /\ E (.ref C) od H'
theorem caught_of {X:Cx} {pins:List (Addr×Obj)} {σ:St} {H:Hp} {s s':Shared} {E:XK} {e:Value} (hex:X.ex = []) (I:Inv X pins σ H s) (h:CXe X.prog X.w X.stack H s E e s'):caught X pins σ E e s':=by
  obtain ⟨x,T,C,od,H',rfl,ho,hg,un,hok,nx,nT,hx,hT,fl,q⟩:=h
  exact ⟨x,T,C,od,H',rfl,I.call' (ch:=[]) ho un hok hg (fun b z => absurd z (by simp)),fl,I.frsh hex nx hx,I.frsh hex nT hT,q⟩
noncomputable abbrev TEX:=St -> Hp -> VK -> XK -> Prop
noncomputable abbrev TX:=Ends -> XK -> St -> Hp -> Prop
noncomputable def PEX (X:Cx) (e:Expr) (t:TEX):Prop :=
  ∀ (pins:List (Addr×Obj)) (s:Shared) (σ:St) (H:Hp) (Q:VK) (E:XK),Inv X pins σ H s -> t σ H Q E -> wpAny (model X.prog X.w) X.A (eval e X.env) (EP X pins σ Q) (caught X pins σ E) s
noncomputable def PX (X:Cx) (st:Stmt) (t:TX):Prop :=
  ∀ (pins:List (Addr×Obj)) (s:Shared) (σ:St) (H:Hp) (D:Ends) (E:XK),Inv X pins σ H s -> t D E σ H -> wpAny (model X.prog X.w) X.A (exec st X.env) (SP X pins D) (caught X pins σ E) s
noncomputable def tCallX (sp:Sp) (dvs:List V) (t:TA):TEX:=fun σ H Q E => t σ H fun vs H1 => sp (vs ++ dvs) H1 Q E
section
variable {X:Cx} {k:Nat} {f:Addr} {fd:FuncData} {x:Str} {ps:List Str} {dvs:List V} {ds:List Value} {sp:Sp} {p pos:Pos} {e:Expr} {es:List Expr} {t:TA} {E:XK}
theorem pex_run (F:FnOk X.prog X.w X.K X.mg X.base (CXe X.prog X.w) k f fd ps sp) (hex:X.ex = []) (hxe:∀ e s,X.xe e s -> False) (hr:Room k X.A) (hg:Gl X x) (hm:X.mg x = some (.ref f)) (hk:PySem.W.keepIn X.K (.ref f) = true) (hb:Binds X.K fd ps ds) (hd:Vals dvs ds)
    (ha:PA X (e :: es) t) (hdb:(x == ("__debug__":Str)) = false) (he:starEach (e :: es) X.env = (false,eval e X.env) :: starEach es X.env) (hpl:(backTo pos (starEach es X.env)).any (·.1) = false) :
    PEX X (.Call (.Name x p) (e :: es) [] pos) (tCallX sp dvs t):=by
  intro pins s σ H Q E I h
  refine wpAny_Call_Name_kw (ld_glob I hg hm ?_ hdb)
  refine PySem.W.callWith_K (h₀:=X.base) I.ok.mod.kin hk (wpAny_mono (ha pos pins s σ H _ I h) (fun us s1 ⟨vs,H1,I1,r,q⟩ => ⟨I1.kIn,?_⟩) fun e s z => (hxe e s z).elim) he hpl
  have r2:Vals (vs ++ dvs) (us ++ ds):=r.append hd
  have hl:(us ++ ds).length = ps.length:=by rw [← r2.length]; exact F.len _ _ _ _ q
  refine wpAny_call (codeAny_mono (F.run X.A X.stack s1 H1 ⟨us,[]⟩ (us ++ ds) (vs ++ dvs) Q E hr I1.env0 (hb s1 us I1.kIn hl) r2 q) fun r s' hq => ?_)
  cases r with
  | error e => exact caught_of hex I1 hq
  | ok fl =>
    cases fl with
    | ret u => exact I1.after hq
    | next => exact False.elim hq
    | brk => exact False.elim hq
    | cont => exact False.elim hq
theorem pex_call (o:OkfX X.prog X.w X.K X.mg X.base k x ps dvs sp) (hex:X.ex = []) (hxe:∀ e s,X.xe e s -> False) (hr:Room k X.A) (hg:Gl X x) (ha:PA X (e :: es) t) (hdb:(x == ("__debug__":Str)) = false:=by decide)
    (he:starEach (e :: es) X.env = (false,eval e X.env) :: starEach es X.env:=by rfl) (hpl:(backTo pos (starEach es X.env)).any (·.1) = false:=by rfl) :
    PEX X (.Call (.Name x p) (e :: es) [] pos) (tCallX sp [] t):=by
  obtain ⟨f,fd,a,b,c,_,d⟩:=o.ex
  exact pex_run d hex hxe hr hg a b c .nil ha hdb he hpl
end
end L2
namespace L2
open PySem PySem.Spec PyProof.Rows
section
variable {X:Cx} {e:Expr} {te:TEX} {pos:Pos}
noncomputable def xDrop (te:TEX):TX:=fun D E σ H => te σ H (fun _ H1 => D.nx σ H1) E
theorem px_expr (he:PEX X e te) (hs:swapsWith e none pos.line X.env = pure false:=by rfl):PX X (.Expr e pos) (xDrop te):=by
  intro pins s σ H D E I h
  exact wpAny_Expr_any (thn (he pins s σ H _ E I h) fun v s1 ⟨x,H1,I1,r1,q1⟩ => ⟨σ,H1,I1,q1⟩) I.quiet hs
noncomputable def xIf (c:TT) (t u:TX):TX:=fun D E σ H => c σ H fun b H1 => if b = true then t D E σ H1 else u D E σ H1
theorem px_if {c:Expr} {a b:Stmt} {tc:TT} {t u:TX} (hxe:∀ e s,X.xe e s -> False) (hc:PT X c tc) (ha:PX X a t) (hb:PX X b u):PX X (.If c [a] [b] pos) (xIf tc t u):=by
  intro pins s σ H D E I h
  have one:∀ {st:Stmt} {t:TX} {s1:Shared} {H1:Hp},PX X st t -> Inv X pins σ H1 s1 -> t D E σ H1 -> wpAny (model X.prog X.w) X.A (execs [st] X.env) (SP X pins D) (caught X pins σ E) s1:=fun {st t s1 H1} hp I1 q1 => by
    refine wpAny_execs_cons (thn (hp pins s1 σ H1 D E I1 q1) fun f s2 q => ?_)
    cases f with
    | next => exact wpAny_execs_nil q
    | ret v => exact q
    | brk => exact q
    | cont => exact q
  refine wpAny_If (wpAny_mono (hc pins s σ H _ I h) (fun d s1 ⟨H1,I1,q1⟩ => ?_) fun e s z => (hxe e s z).elim)
  cases d with
  | true => exact one ha I1 q1
  | false => exact one hb I1 q1
end
noncomputable abbrev Cx.hld (X:Cx) (x:Addr):Cx:={ X with A:=X.A.mark (some (.ref x)),calm:=false,xe:=fun _ _ => False }
section
variable {X:Cx} {pins:List (Addr×Obj)} {σ:St} {H:Hp} {s:Shared} {x:Addr}
theorem Inv.hld (I:Inv X pins σ H s) (x:Addr):Inv (X.hld x) pins σ H s :=
  ⟨⟨I.ok.mod,I.ok.kind,I.ok.glob,I.ok.blt,I.ok.above,I.ok.inj,I.ok.has,I.ok.cab,(fun z => nomatch z),I.ok.frames,I.ok.stk,I.ok.exf,I.ok.bs,I.ok.bsz,I.ok.noex,I.ok.exfs,I.ok.funs,I.ok.frf⟩,I.os,I.bare,I.base,I.loc,I.cell,I.free,I.freeC,I.pin,I.hok,I.len⟩
theorem Inv.unhld (hd:X.calm = true -> X.A.handled = none) (I:Inv (X.hld x) pins σ H s):Inv X pins σ H s :=
  ⟨⟨I.ok.mod,I.ok.kind,I.ok.glob,I.ok.blt,I.ok.above,I.ok.inj,I.ok.has,I.ok.cab,hd,I.ok.frames,I.ok.stk,I.ok.exf,I.ok.bs,I.ok.bsz,I.ok.noex,I.ok.exfs,I.ok.funs,I.ok.frf⟩,I.os,I.bare,I.base,I.loc,I.cell,I.free,I.freeC,I.pin,I.hok,I.len⟩
theorem goes_ok {M:Model} {A:Around} {E:Value -> Shared -> Prop} {i:Nat} {n:Str} {pos:Pos} {Q:Unit -> Shared -> Prop} (I:Inv X pins σ H s) (hN:X.N.Nodup) (hi:X.N[i]? = some n) (hl:X.env.scope.names.lookup n = some .local)
    (h:∀ s',Inv X pins (σ.set i none) H s' -> Q () s'):wpAny M A (do bindName X.env n .none; unbindBehindTheSuite X.env n pos) Q E s:=by
  obtain ⟨m,hn,hv⟩:=id I.loc
  have hcls:(X.env.scope.kind == .class || (X.env.scope.kind == .module && X.env.locals != X.env.globals)) = false:=by rw [I.ok.kind]; rfl
  refine wpAny_nameGoes_keeps hl hn hcls fun h' v hn' hs => h _ ?_
  have old:∀ b o,X.s₀.heap.get? b = some o -> b ≠ X.env.locals:=fun b o e => Nat.ne_of_lt (Nat.lt_of_lt_of_le (Heap.lt_size e) I.ok.above)
  refine ⟨I.ok,I.os,I.bare,⟨fun b o e n hb hx => (hs.2 b (old b o e)).trans (I.base.keep b o e n hb hx),fun b o e n hb hx => ?_,I.base.free,fun b o e hx => ?_,I.base.tups,I.base.frzs,I.base.tbls⟩,⟨_,hn',fun j y v' e1 e2 e3 => ?_⟩,fun y c e => ?_,I.free,I.freeC,fun p hp => ?_,?_,by simpa using I.len⟩
  . obtain ⟨sl,e1⟩:=I.base.slot b o e n hb hx
    exact ⟨sl,(hs.2 b (old b o e)).trans e1⟩
  . obtain ⟨o',e1⟩:=I.base.there b o e hx
    exact ⟨o',(hs.2 b (old b o e)).trans e1⟩
  . have hj:j ≠ i:=fun z => by
      rw [z] at e2
      by_cases hi':i < σ.length
      . rw [List.getElem?_set_self hi'] at e2; cases e2
      . rw [List.getElem?_eq_none (by rw [List.length_set]; omega)] at e2; cases e2
    rw [List.getElem?_set_ne (Ne.symm hj)] at e2
    obtain ⟨u',r',q⟩:=hv j y v' e1 e2 e3
    refine ⟨u',r',?_⟩
    rcases q with ⟨k,e⟩ | ⟨k,c,e,z⟩
    . refine .inl ⟨k,?_⟩
      have:y ≠ n:=fun e => hj (nodup_ix hN e1 (e ▸ hi))
      show (if y = n then v else m y) = some u'
      rw [if_neg this]; exact e
    . exact .inr ⟨k,c,e,z.sameBut hs (I.cne y c e)⟩
  . obtain ⟨w',z⟩:=I.cell y c e
    exact ⟨w',z.sameBut hs (I.cne y c e)⟩
  . obtain ⟨e,n,ne,nf,d⟩:=I.pin p hp
    exact ⟨(hs.2 p.1 ne).trans e,n,ne,nf,d⟩
  . intro b ob e
    refine (I.hok b ob e).stay (fun c w' hc q => (hs.2 c ?_).trans q) (fun _ q => q) fun _ _ q => q
    rintro rfl
    rcases hc with rfl | hc
    . rw [I.free] at e; cases e
    . rw [I.free] at hc; cases hc
theorem Inv.track {a:Addr} {o:HO} (I:Inv X pins σ H s) (fr:Frsh X pins H a) (new:ObjOk X.prog X.w (upd H a o) s.heap a o):Inv X pins σ (upd H a o) s:=by
  refine ⟨I.ok,I.os,I.bare,I.base.track fr.h fr.s,I.loc,I.cell,?_,fun x c e => ?_,fun p hp => ?_,I.hok.track fr.h new,I.len⟩
  . rw [upd_ne (Ne.symm fr.l)]; exact I.free
  . rw [upd_ne (fr.c x c e)]; exact I.freeC x c e
  . obtain ⟨e,n,r⟩:=I.pin p hp
    exact ⟨e,by rw [upd_ne (fr.p p hp)]; exact n,r⟩
end
noncomputable def tTry (K:PySem.W.Frag) (CT:Addr) (i:Nat) (tb:TX) (ts:Addr -> TS):TS:=fun D σ H => tb D (fun cv od H' => ∃ C,cv = .ref C /\ PySem.W.exmOne K (.ref C) (.ref CT) = some true /\
  ∀ x,H' x = none -> ts x ⟨fun σ' H2 => D.nx (σ'.set i none) H2,D.rt,fun σ' H2 => D.bk (σ'.set i none) H2,fun σ' H2 => D.ct (σ'.set i none) H2⟩ (σ.set i (some (.ref x))) (upd H' x (excO x C od))) σ H
section
variable {X:Cx}
theorem ps_try {CT:Addr} {nc n:Str} {i:Nat} {st s0:Stmt} {suite:List Stmt} {tb:TX} {ts:Addr -> TS} {np hp pos:Pos} (hex:X.ex = []) (hst:X.stack = X.env :: X.outer) (hfr:X.env.frame = some X.env.locals)
    (hg:Gl X nc) (hm:X.mg nc = some (.ref CT)) (hN:X.N.Nodup) (hi:X.N[i]? = some n) (hl:X.env.scope.names.lookup n = some .local) (hb:PX X st tb) (hs:∀ x,PSs (X.hld x) (s0 :: suite) (ts x)) (hd:(nc == ("__debug__":Str)) = false:=by decide) :
    PS X (.Try [st] [.ExceptHandler (some (.Name nc np)) (some n) (s0 :: suite) hp] [] [] pos) (tTry X.K CT i tb ts):=by
  intro pins s σ H D I h
  refine wpAny_Try_except (wpAny_execs_cons (wpAny_mono (hb pins s σ H D _ I h) (fun f s1 q => ?_) fun e s1 q => ?_))
  . cases f with
    | next => exact wpAny_execs_nil (wpAny_execs_nil q)
    | ret v => exact q
    | brk => exact q
    | cont => exact q
  . obtain ⟨x,T,C,od,H',rfl,I1,fl,fx,fT,C',hC,hm1,q⟩:=q
    cases hC
    have mov:∀ {s2:Shared} {h2:Heap} {T1 T2:Addr},Inv X pins σ H' s2 -> Frsh X pins H' T1 -> (T2 = T1 ∨ s2.heap.get? T2 = none) -> Kpt (frs X.stack) [x,T1] s2.heap h2 -> Inv X pins σ H' { s2 with heap:=h2 } /\ Frsh X pins H' T2:=fun {s2 h2 T1 T2} J f1 z k => by
      refine ⟨J.kpt k fun b hb => ?_,?_⟩
      . rcases List.mem_cons.mp hb with e | e
        . rw [e]; exact fx
        . rw [List.mem_singleton.mp e]; exact f1
      . rcases z with z | z
        . rw [z]; exact f1
        . exact J.frsh hex z (J.hok.none_of z)
    have hfr':X.A.frames = some (X.env :: X.outer):=hst ▸ I1.ok.frames
    have hF1:s1.heap.FunFrames X.base (X.env :: X.outer):=hst ▸ I1.stack
    refine fly_note hfr' hfr hF1 fl fun h2 T2 fl2 z2 k2 => ?_
    obtain ⟨I2,fT2⟩:=mov I1 fT z2 (hst ▸ k2)
    refine wpAny_handleBy_cons (codeAny_handlers_test (ld_glob (I2.hld x) hg hm ?_ hd)) (by intro q; cases q)
    refine (PySem.W.exm_one I2.kIn (fl2.exR.kitR.ty _) hm1).here ?_
    refine codeAny_handlers_suite_as ?_
    refine fly_again (l:=X.stack) fl2 fun h3 fl3 k3 => ?_
    obtain ⟨I3,_⟩:=mov I2 fT2 (.inl rfl) k3
    have I4:=I3.track fx (excO_ok (C:=C) (od:=od) fl3.exR)
    refine store_ok (v:=.ref x) I4 hN hi (.inl hl) rfl (fun s5 I5 => ?_) (.inr hl)
    refine wpAny_mono (hs x pins s5 _ _ _ (I5.hld x) (q x fx.h)) (fun f s6 q6 => ?_) fun _ _ z => z.elim
    cases f with
    | next =>
      obtain ⟨σ',H2,I6,q6⟩:=q6
      exact goes_ok (I6.unhld I.ok.hd) hN hi hl fun s7 I7 => ⟨_,H2,I7,q6⟩
    | brk =>
      obtain ⟨σ',H2,I6,q6⟩:=q6
      exact goes_ok (I6.unhld I.ok.hd) hN hi hl fun s7 I7 => ⟨_,H2,I7,q6⟩
    | cont =>
      obtain ⟨σ',H2,I6,q6⟩:=q6
      exact goes_ok (I6.unhld I.ok.hd) hN hi hl fun s7 I7 => ⟨_,H2,I7,q6⟩
    | ret u =>
      obtain ⟨v,σ',H2,I6,r,q6⟩:=q6
      exact goes_ok (I6.unhld I.ok.hd) hN hi hl fun s7 I7 => ⟨v,_,H2,I7,r,q6⟩
end
end L2
namespace L2
open PySem PySem.Spec PyProof.Rows
section
variable {X:Cx} {e:Expr} {te:TEX} {pos:Pos}
end
section
variable {X:Cx}
end
end L2
namespace L2
open PySem PySem.Spec PyProof.Rows
section
variable {prog:Program} {w:World} {A:Around} {E:Value -> Shared -> Prop} {s:Shared}
end
section
variable {X:Cx} {tg:Expr} {y:Addr}
variable {scope:Scope} {tn names:List Str} {is:List Nat} {elt iter:Expr} {ifs:List Expr} {pos:Pos} {wi:TI} {te:TE} {tc:Option TT} {g:TG}
end
section
variable {te:TE} {Q:VK} {H:Hp} {caps:St} {y:Addr}
end
section
variable {X:Cx} {k:Nat} {x:Str} {ps:List Str} {sp:Addr -> Sp} {p pos:Pos} {e:Expr} {es:List Expr} {t:TA} {y:Addr}
end
end L2
namespace L2
open PySem PySem.Spec PyProof.Rows
theorem bt_ValueError:bootBuiltins "ValueError" = some (.type "ValueError"):=by decide +kernel
section
variable {X:Cx}
noncomputable def rIsX (K:PySem.W.Frag):List V -> Hp -> VK -> Prop:=fun xs H Q => ∃ y C od v c b,xs = [.ref y,v] /\ H y = some (excO y C od) /\ XCls K C /\ RelV v c /\ PySem.W.kitOne K (.ref C) c = some b /\ Q (.bl b) H
theorem call_isX:CallR X (.builtin "isinstance") (rIsX X.K):=by
  intro pins s σ H xs us Q I r h
  obtain ⟨y,C,od,v,c,b,rfl,hy,z,rc,e,q⟩:=h
  obtain ⟨u,u',rfl,ru,rv⟩:=Vals.two r
  obtain rfl:u = Value.ref y:=ru
  have ec:u' = c:=by
    cases v with
    | ref a => exact rv.trans rc.symm
    | ty n => exact rv.trans rc.symm
    | non => exact rv.trans rc.symm
    | bl a => exact rv.trans rc.symm
    | int _ => obtain ⟨t,rfl⟩:=rc; simp [PySem.W.kitOne,PySem.W.kitCls] at e
    | str _ => obtain ⟨t,rfl⟩:=rc; simp [PySem.W.kitOne,PySem.W.kitCls] at e
    | byt _ => obtain ⟨t,rfl⟩:=rc; simp [PySem.W.kitOne,PySem.W.kitCls] at e
    | flt _ => obtain ⟨t,rfl⟩:=rc; simp [PySem.W.kitOne,PySem.W.kitCls] at e
  subst ec
  exact PySem.W.kia_one (kitx_exc z) I.kIn (I.hok y _ hy).1.kitR e (by intro q; cases q) fun tk => ⟨.bl b,H,I.tok tk,rfl,q⟩
end
section
variable {K:PySem.W.Frag} {σ:St} {H:Hp} {Q:VK} {D:Ends} {E:XK}
theorem r_isXc {y C c:Addr} {od:Option Addr} {b:Bool} (hy:H y = some (excO y C od)) (z:XCls K C) (e:PySem.W.kitOne K (.ref C) (.ref c) = some b) (k:Q (.bl b) H):rIsX K [.ref y,.ref c] H Q:=⟨y,C,od,_,_,b,rfl,hy,z,rfl,e,k⟩
theorem r_isXt {y C:Addr} {od:Option Addr} {T:String} {b:Bool} (hy:H y = some (excO y C od)) (z:XCls K C) (e:PySem.W.kitOne K (.ref C) (.type T) = some b) (k:Q (.bl b) H):rIsX K [.ref y,.ty T] H Q:=⟨y,C,od,_,_,b,rfl,hy,z,rfl,e,k⟩
noncomputable def tryE (K:PySem.W.Frag) (CT:Addr) (i:Nat) (ts:Addr -> TS) (D:Ends) (σ:St):XK:=fun cv od H' => ∃ C,cv = .ref C /\ PySem.W.exmOne K (.ref C) (.ref CT) = some true /\
  ∀ x,H' x = none -> ts x ⟨fun σ' H2 => D.nx (σ'.set i none) H2,D.rt,fun σ' H2 => D.bk (σ'.set i none) H2,fun σ' H2 => D.ct (σ'.set i none) H2⟩ (σ.set i (some (.ref x))) (upd H' x (excO x C od))
theorem r_try {CT:Addr} {i:Nat} {tb:TX} {ts:Addr -> TS} (k:tb D (tryE K CT i ts D σ) σ H):tTry K CT i tb ts D σ H:=k
theorem r_tryE {C CT:Addr} {i:Nat} {ts:Addr -> TS} {o:Option Addr} (e:PySem.W.exmOne K (.ref C) (.ref CT) = some true)
    (k:∀ x,H x = none -> ts x ⟨fun σ' H2 => D.nx (σ'.set i none) H2,D.rt,fun σ' H2 => D.bk (σ'.set i none) H2,fun σ' H2 => D.ct (σ'.set i none) H2⟩ (σ.set i (some (.ref x))) (upd H x (excO x C o))):tryE K CT i ts D σ (.ref C) o H:=⟨C,rfl,e,k⟩
theorem r_xdrop {te:TEX} (k:te σ H (fun _ H1 => D.nx σ H1) E):xDrop te D E σ H:=k
theorem r_callX {sp:Sp} {t:TA} (k:t σ H fun vs H1 => sp vs H1 Q E):tCallX sp [] t σ H Q E:=by
  have e:(fun (vs:List V) H1 => sp (vs ++ []) H1 Q E) = fun vs H1 => sp vs H1 Q E:=by
    funext vs H1
    rw [List.append_nil]
  show t σ H fun vs H1 => sp (vs ++ []) H1 Q E
  rw [e]; exact k
end
end L2
namespace L2
open PySem PySem.Spec PyProof.Rows PySem.W Builtin Builtin.ObjectAttr
noncomputable def NwR (x C:Addr) (od:Option Addr) (h:Heap):Prop:=∃ o vs,h.get? x = some o /\ ClsD o C od /\ o.data = .fields vs /\ vs.size = 6 /\ (∃ t0,vs[0]? = some (.ref t0)) /\ vs[1]? = some .none /\ vs[2]? = some .none
noncomputable def nwO (x C:Addr) (od:Option Addr):HO:=.ext (NwR x C od)
theorem nwO_ok {P:Program} {w:World} {H:Hp} {h:Heap} {x C:Addr} {od:Option Addr} (k:NwR x C od h):ObjOk P w H h x (nwO x C od) :=
  ⟨k,(let ⟨o,_,e,_⟩:=k; ⟨o,e⟩),fun _ _ ⟨o,vs,e,c⟩ kp => ⟨o,vs,kp o e,c⟩⟩
structure WkC (K:Frag) (C CT:Addr):Prop where
  sa:findIn K (.ref C) "__setattr__" = some (some (.builtin "object.__setattr__"))
  na:findIn K (.ref C) "at" = some none
  cd:∃ cd,clsIn K C = some cd /\ cd.hasDict = true /\ cd.mro = [.ref C,.ref CT,.type "ValueError",.type "Exception",.type "BaseException",.type "object"]
  ve:subIn K (.ref C) (.type "ValueError") = some true
theorem passes_exc (self:Value) (C CT:Addr):refuseLoop self "__setattr__" [.ref C,.ref CT,.type "ValueError",.type "Exception",.type "BaseException",.type "object"] = pure ():=by
  rw [refuseLoop_ref,refuseLoop_ref]
  kernel_rfl
section
variable {X:Cx} {pins:List (Addr×Obj)} {σ:St} {H:Hp} {s:Shared} {x C CT:Addr} {A:Around} {E:Value -> Shared -> Prop}
theorem nw_store {y:V} {u:Value} {Q:Unit -> Shared -> Prop} (I:Inv X pins σ H s) (hx:H x = some (nwO x C none)) (kc:WkC X.K C CT) (ry:RelV y u)
    (h:∀ s' dx,H dx = none -> dx ≠ x -> Inv X pins σ (upd (upd H dx (.xd [("at",y)])) x (nwO x C (some dx))) s' -> Q () s'):wpAny (model X.prog X.w) A (setAttr (.ref x) "at" u) Q E s:=by
  obtain ⟨o,vs,ho,hc,hd,h6,h0,h1,h2⟩:=(I.hok x _ hx).1
  have KX:=I.kIn
  obtain ⟨hh,g,d,t,os⟩:=s
  dsimp only at ho KX
  have IA:InstAt hh x o C none:=⟨ho,hc.1,by unfold notCls; rw [hd],by rw [hc.2]; trivial⟩
  obtain ⟨cd,c1,c2,c3⟩:=kc.cd
  refine set_plain KX IA kc.sa ?_
  have SF:=PySem.F.store_object
  have sub:Looks (model X.prog X.w) hh (isInstance (.ref x) (.type "object")) true:=IA.type.andThen (looks_mroIn KX (by unfold mroIn; rw [c1,Option.bind_some,c3]; rfl))
  refine codeAny_call_builtin SF.slot.plain SF.entry (@check_slot (model X.prog X.w) _ _ _ "object.__setattr__" "object" "__setattr__" (.ref x) [.str "at" t,u] [] _ SF.kind SF.split sub (SF.args (.ref x) (.str "at" t) u) ?_)
  have hm:Looks (model X.prog X.w) hh (mroOf (.ref C)) cd.mro:=(looks_clsIn KX c1).andThen .now
  rw [osa_eq,refuse_eq]
  refine wpAny_bind (wpAny_bind (IA.type.at (wpAny_bind (hm.at ?_))))
  rw [c3,passes_exc]
  refine wpAny_pure (wpAny_bind (IA.type.at (wpAny_bind ((looks_findIn KX kc.na).at ?_))))
  refine wpAny_bind (wpAny_pure ?_)
  dsimp only
  obtain ⟨oc,od,oda,osl⟩:=o
  obtain ⟨hc1,hc2⟩:=hc
  dsimp only at hd hc1 hc2
  subst hd hc1 hc2
  refine wpAny_bind (wpAny_pure (wpAny_bind (wpAny_bind (wpAny_loadPart ho (wpAny_bind ((looks_clsIn KX c1).at ?_))))))
  rw [c2]
  dsimp only
  rw [if_neg (by decide),if_neg (by simp [typeHasDict])]
  have hxs:x ≠ hh.objs.size:=Nat.ne_of_lt (Heap.lt_size ho)
  have hx₁:(hh.push { cls:=.type "dict",data:=.dict #[] }).get? x = _:=Heap.get?_push_of_some _ ho
  refine wpAny_bind (wpAny_alloc' (wpAny_bind (wpAny_update' hx₁ (wpAny_pure ?_))))
  generalize hh2:((hh.push { cls:=.type "dict",data:=.dict #[] }).update x fun o => { cls:=o.cls,dict:=some hh.objs.size,data:=o.data,slots:=o.slots }) = h2'
  have hgd:h2'.get? hh.objs.size = some { cls:=.type "dict",data:=.dict #[] }:=by
    rw [← hh2]
    exact (Heap.get?_update_ne _ _ _ _ hxs.symm).trans (Heap.get?_push_at rfl rfl)
  have hgx:h2'.get? x = some { cls:=.ref C,dict:=some hh.objs.size,data:=.fields vs,slots:=osl }:=by
    rw [← hh2]
    exact Heap.get?_update_self _ hx₁ rfl
  have hgo:∀ b u,b ≠ x -> hh.get? b = some u -> h2'.get? b = some u:=fun b u hb e => by
    rw [← hh2]
    exact (Heap.get?_update_ne _ _ _ _ hb).trans (Heap.get?_push_of_some _ e)
  have hnd:h2'.Ns hh.objs.size (fun _ => none):=⟨_,#[],_,hgd,rfl,fun e he => absurd he (by simp),fun _ => rfl⟩
  show wpAny _ _ (storeInDict hh.objs.size (.str "at" t) "at" u) _ _ _
  unfold storeInDict newKeyGuard
  refine wpAny_bind (wpAny_pure (wpAny_bind (wpAny_nsSet1 (Heap.Ns1.of_empty hnd) fun h' hn' hs => ?_)))
  obtain ⟨oD,esD,epD,hoD,hdD,hcD⟩:=hn'.count (Within.cons "at" u Within.nil)
  refine wpAny_bind (wpAny_lookBehind hoD (by rw [hdD]; exact pastItsLine_dict (Nat.le_trans hcD (by rw [List.length_cons,List.length_nil,sizeLine_eq]; omega))) ?_)
  refine wpAny_pure ?_
  have hx':h'.get? x = _:=(hs.2 x hxs).trans hgx
  have hdx:=I.hok.fresh (a:=hh.objs.size) (Nat.le_refl _)
  have hfr:oD.isFreed = false:=(Heap.get?_some_iff.mp hoD).2
  have gA:(hh.push oD).get? hh.objs.size = some oD:=Heap.get?_push_at rfl hfr
  have I1:=I.laid (a:=hh.objs.size) (o:=.xd [("at",y)]) (h':=hh.push oD) (t':=t) (fun b w e => Heap.get?_push_of_some _ e) (Nat.le_refl _) ⟨_,hn'.at fun o e => by rw [hoD] at e; cases e; exact gA,fun f => ?_⟩
  . refine h _ _ hdx hxs.symm (I1.write (x:=x) (e:=x) (by rw [upd_ne hxs,hx]; trivial) (.inl rfl) (fun b w hb e => ?_) ⟨_,hx'⟩ (nwO_ok ⟨_,vs,hx',⟨rfl,rfl⟩,rfl,h6,h0,h1,h2⟩))
    by_cases q:b = hh.objs.size
    . rw [q,gA] at e
      cases e
      rw [q]
      exact hoD
    . refine (hs.2 b q).trans (hgo b w hb ?_)
      rcases Heap.get?_push_cases e with ⟨z,_⟩ | z
      . exact absurd z q
      . exact z
  . show RelO (([(("at":Str),y)]:List (Str×V)).lookup f) (if f = "at" then some u else none)
    by_cases q:f = "at"
    . subst q
      rw [if_pos rfl]
      exact ry
    . rw [if_neg q,show ([(("at":Str),y)]:List (Str×V)).lookup f = none by simp [List.lookup,beq_eq_false_iff_ne.mpr q]]
      trivial
end
section
variable {prog:Program} {w:World} {A:Around} {E:Value -> Shared -> Prop} {s:Shared} {K:Frag} {x C dx CT:Addr} {mA:Str -> Option Value} {u:Value}
theorem InstAt.exc {h:Heap} (p:ExR x C (some dx) h) (hn:h.Ns1 dx mA):∃ ox od,InstAt h x ox C (some od) /\ lookIn "at" od = some (mA "at"):=by
  obtain ⟨o,vs,ho,hc,hd,_⟩:=p
  obtain ⟨od,hod,hl⟩:=lookIn_ns hn
  exact ⟨o,od,⟨ho,hc.1,by unfold notCls; rw [hd],by rw [hc.2]; exact hod⟩,hl _⟩
theorem at_entry {tk:Tok} {Q:Fin -> Shared -> Prop} (kc:WkC K C CT) (X:K.In s.heap) (p:ExR x C (some dx) s.heap) (hn:s.heap.Ns1 dx mA) (hv:mA "at" = some u) (h:Q (.done (.ret u)) s) :
    wpAny (model prog w) A (Builtin.«object.__getattribute__» ⟨[.ref x,.str "at" tk],[]⟩) Q E s:=by
  obtain ⟨ox,od,IA,hl⟩:=InstAt.exc p hn
  obtain ⟨cd,c1,c2,_⟩:=kc.cd
  have L:=looks_find (M:=model prog w) (name:="at") X IA (findObj_own (by unfold hasDictIn; rw [c1]; exact c2) kc.na rfl (by rw [hl,hv]))
  have L0:=IA.type (M:=model prog w)
  obtain ⟨h1,gs,dw,tn,so⟩:=s
  repeat (any_goals (first | assumption | with_reducible refine L0.at ?_ | with_reducible refine L.at ?_ | wp_step))
theorem at_call {tk:Tok} {R:Result -> Shared -> Prop} (Z:XCls K C) (kc:WkC K C CT) (X:K.In s.heap) (p:ExR x C (some dx) s.heap) (hn:s.heap.Ns1 dx mA) (hv:mA "at" = some u) (h:R (.ok (.ret u)) s) :
    codeAny (model prog w) A (.call (.builtin "BaseException.__getattribute__") ⟨[.ref x,.str "at" tk],[]⟩) R s :=
  codeAny_call_builtin F.attr_ValueError.ga.plain F.entry_bexc_ga (x_check Z X p.kitR (at_entry kc X p hn hv h))
theorem at_by {tk:Tok} {fill expr:Bool} {Q:Value -> Shared -> Prop} (Z:XCls K C) (kc:WkC K C CT) (X:K.In s.heap) (p:ExR x C (some dx) s.heap) (hn:s.heap.Ns1 dx mA) (hv:mA "at" = some u) (hh:handedIn u = true) (h:Q u s) :
    wpAny (model prog w) A (getAttrBy (.ref x) (.str "at" tk) fill expr) Q E s:=by
  obtain ⟨h1,gs,dw,tn,so⟩:=s
  have L0:=p.kitR.ty (model prog w)
  have L1:=looks_findIn (M:=model prog w) X Z.ga
  have L2:=looks_findIn (M:=model prog w) X Z.gt
  have f3:=F.attr_ValueError.ga.bind (.ref x)
  have n2:(Value.builtin "BaseException.__getattribute__" == Value.builtin "object.__getattribute__") = false:=by decide +kernel
  have n1:(onTheHeap (Value.ref C) && Value.builtin "BaseException.__getattribute__" == Value.builtin "object.__getattribute__") = false:=by rw [n2]; rfl
  have n0:(expr && onTheHeap (Value.builtin "BaseException.__getattribute__")) = false:=by cases expr <;> rfl
  have hd:=handedOut_of hh
  obtain ⟨o,hx,hc⟩:=p.kitR
  repeat (any_goals (first | assumption | (with_reducible refine wpAny_loadPart_at hx ?_; rw [hc]) | with_reducible refine L1.here ?_ | with_reducible refine L2.here ?_ | wp_step))
  refine at_call Z kc X p hn hv ?_
  repeat any_goals (first | assumption | rw [hd] | wp_step)
theorem at_attr {expr:Bool} {Q:Value -> Shared -> Prop} (Z:XCls K C) (kc:WkC K C CT) (X:K.In s.heap) (p:ExR x C (some dx) s.heap) (hn:s.heap.Ns1 dx mA) (hv:mA "at" = some u) (hh:handedIn u = true) (h:Q u { s with toks:=s.toks + 1 }) :
    wpAny (model prog w) A (getAttr (.ref x) "at" expr) Q E s:=by
  obtain ⟨h1,gs,dw,tn,so⟩:=s
  exact wpAny_bind (wpAny_mkText (at_by (s:=⟨h1,gs,dw,tn + 1,so⟩) Z kc X p hn hv hh h))
end
noncomputable def tAt (K:Frag) (CT:Addr) (ta:TE):TE:=fun σ H Q => ta σ H fun x H1 => ∃ a C dx v,x = .ref a /\ H1 a = some (excO a C (some dx)) /\ XCls K C /\ WkC K C CT /\ H1 dx = some (.xd [("at",v)]) /\ Q v H1
theorem pe_at {X:Cx} {CT:Addr} {e:Expr} {ta:TE} {pos:Pos} (he:PE X e ta) (hb:attributeBase e "at" X.env (eval e X.env) = eval e X.env):PE X (.Attribute e "at" pos) (tAt X.K CT ta):=by
  intro pins s σ H Q I h
  refine attr_of hb (thn (he pins s σ H _ I h) fun u s1 ⟨x,H1,I1,rx,a,C,dx,v,ex,ea,z,kc,hd,q⟩ => ?_)
  subst ex
  obtain rfl:u = Value.ref a:=rx
  obtain ⟨mA,hn,hr⟩:=(show ∃ mA,s1.heap.Ns1 dx mA /\ ∀ f,RelO (([(("at":Str),v)]:List (Str×V)).lookup f) (mA f) from I1.hok dx _ hd)
  obtain ⟨u',hu,ru⟩:=RelO.some_of (v:=v) (o:=mA "at") (hr "at")
  exact at_attr z kc I1.kIn (I1.hok a _ ea).1 hn hu (handed_of ru) ⟨v,H1,I1.tok _,ru,q⟩
theorem upd_selfN {H:Hp} {a:Addr} {o:HO} (h:H a = some o):upd H a o = H:=by
  funext b
  unfold upd
  split
  . rename_i e
    rw [e,h]
  . rfl
structure WkT (K:Frag) (CT:Addr):Prop where
  ga:specialIn K (.ref CT) "__getattribute__" = some (some (.builtin "type.__getattribute__"))
  rd:readsIn K CT (.type "type") = true
  fc:findCls K (.ref CT) (.type "type") "__init__" = some (.val (.builtin "ValueError.__init__"))
theorem vi_check {M:Model} {A:Around} {E:Value -> Shared -> Prop} {h:Heap} {g:Array GenState} {d:Drawn} {t:Nat} {os:OsState} {x C:Addr} {o:Obj} {c0:Value} {d0:Option Addr} {cd:ClassData} {sl:Array (Option Value)} {rest:List Value} {Q:Unit -> Shared -> Prop} (sub:Looks M h (isInstance (.ref x) (.type "ValueError")) true) (he:h.get? x = some o) (hcls:o.cls = .ref C) (hC:h.get? C = some ⟨c0,d0,.cls cd,sl⟩) (hq:Q () ⟨h,g,d,t,os⟩) :
    wpAny M A (checkBuiltinCall "ValueError.__init__" ⟨.ref x :: rest,[]⟩) Q E ⟨h,g,d,t,os⟩:=by
  have F:=F.excBase_ValueError
  have hshort:=F.noStar
  simp only [checkBuiltinCall,F.initKind,F.initSplit,F.initRow]
  refine wpAny_bind (sub.at ?_)
  repeat (first | (with_reducible refine wpAny_loadPart_at he ?_; rw [hcls]) | with_reducible refine wpAny_loadPart_at hC ?_ | wp_step)
  refine wpAny_onRaise ?_
  rw [show ∀ (a b:String) (n:Nat),Bind.check ⟨.positional,"*","ValueError",.self,[⟨"args",.varPos,false⟩]⟩ a b n (List.map (fun x => x.fst) ({ pos:=Value.ref x :: rest }:Args).kw) = pure () from
    fun a b n => check_star_args _ _ _ _ _ _]
  exact wpAny_pure hq
section
variable {X:Cx} {pins:List (Addr×Obj)} {σ:St} {H:Hp} {s:Shared} {x C CT:Addr} {A:Around} {E:Value -> Shared -> Prop}
theorem nw_init {v:Value} {Q:Value -> Shared -> Prop} (I:Inv X pins σ H s) (hx:H x = some (nwO x C none)) (Z:XCls X.K C) (kt:WkC X.K C CT) (h:∀ s',Inv X pins σ H s' -> Q .none s') :
    wpAny (model X.prog X.w) A (call (.builtin "ValueError.__init__") [.ref x,v]) Q E s:=by
  obtain ⟨o,vs,ho,hc,hd,h6,h0,h1,h2⟩:=(I.hok x _ hx).1
  have KX:=I.kIn
  have F:=F.excBase_ValueError
  obtain ⟨hh,g,d,t,os⟩:=s
  dsimp only at ho KX
  have IA:InstAt hh x o C none:=⟨ho,hc.1,by unfold notCls; rw [hd],by rw [hc.2]; trivial⟩
  obtain ⟨kc,kd,kcd,ksl,hK⟩:=Z.obj
  have sub:Looks (model X.prog X.w) hh (isInstance (.ref x) (.type "ValueError")) true:=IA.type.andThen (looks_subIn KX kt.ve)
  refine wpAny_call (codeAny_call_builtin F.init.plain F.initEntry (vi_check sub ho hc.1 (KX _ _ hK) ?_))
  have ho1:=Heap.get?_push_of_some { cls:=.type "tuple",data:=.seq #[v] } ho
  have hK1:=Heap.get?_push_of_some { cls:=.type "tuple",data:=.seq #[v] } (KX _ _ hK)
  wp_walk
  obtain ⟨t0,h0⟩:=h0
  rw [hd]
  refine wpAny_pure ?_
  rw [h0]
  refine wpAny_pure (wpAny_bind (wpAny_setField ho1 hd (by omega) ?_))
  have d3:=Obj.data_mapFields hd (·.setIfInBounds 0 (Value.ref hh.objs.size))
  have hx':=Heap.get?_update_self (Obj.mapFields (·.setIfInBounds 0 (Value.ref hh.objs.size))) ho1 (Obj.isFreed_of_fields d3)
  have key:=I.write (x:=x) (e:=x) (o:=nwO x C none) (t':=t) (h':=(hh.push { cls:=.type "tuple",data:=.seq #[v] }).update x (Obj.mapFields (·.setIfInBounds 0 (Value.ref hh.objs.size)))) (by rw [hx]; trivial) (.inl rfl) (fun b u hb e => (Heap.get?_update_other _ _ (Ne.symm hb)).trans (Heap.get?_push_of_some _ e)) ⟨_,hx'⟩
    (nwO_ok ⟨_,_,hx',hc.map _,d3,by simp [h6],⟨hh.objs.size,by simp [h6]⟩,by rw [Array.getElem?_setIfInBounds_ne (by decide)]; exact h1,by rw [Array.getElem?_setIfInBounds_ne (by decide)]; exact h2⟩)
  rw [upd_selfN hx] at key
  dsimp only
  repeat (any_goals (first | exact h _ key | wp_step))
end
noncomputable def tBinit (K:Frag) (CT:Addr) (t:TA):TS:=fun D σ H => t σ H fun vs H1 => ∃ x C z,vs = [.ref x,.str z] /\ H1 x = some (nwO x C none) /\ XCls K C /\ WkC K C CT /\ D.nx σ H1
theorem ps_binit {X:Cx} {n:Str} {CT:Addr} {a e:Expr} {t:TA} {pl:Sem Bool} {p1 p2 p3 p4:Pos} (hg:Gl X n) (hm:X.mg n = some (.ref CT)) (kt:WkT X.K CT) (ha:PA X [a,e] t) (hdb:(n == ("__debug__":Str)) = false:=by decide)
    (he:starEach [a,e] X.env = (false,eval a X.env) :: starEach [e] X.env:=by rfl) (hpl:(backTo p3 (starEach [e] X.env)).any (·.1) = false:=by rfl)
    (ht:eval (.Call (.Attribute (.Name n p1) "__init__" p2) [a,e] [] p3) X.env = (do
      let ov ← eval (.Name n p1) X.env
      standAt p2.atName
      let (f,first) ← holding [ov] (getMethod ov "__init__" pl)
      callWith p3 f first (backTo p3 (starEach [a,e] X.env)) (backToKw p3 (keywordEach [] X.env))):=by rfl)
    (hs:swapsWith (.Call (.Attribute (.Name n p1) "__init__" p2) [a,e] [] p3) none p4.line X.env = pure false:=by rfl) :
    PS X (.Expr (.Call (.Attribute (.Name n p1) "__init__" p2) [a,e] [] p3) p4) (tBinit X.K CT t):=by
  intro pins s σ H D I h
  refine wpAny_Expr_any (methodCall_KW (pl:=pl) (ld_glob I hg hm ?_ hdb) ht) I.quiet hs
  refine method_cls I.kIn kt.ga (cls_value I.kIn kt.rd kt.fc rfl ?_)
  refine callWith_builtin1 (thn (ha p3 pins _ σ H _ (I.tok _) h) fun us s1 ⟨vs,H1,I1,r1,x,C,z,e1,hx,Z,kc,q⟩ => ?_) he hpl
  subst e1
  obtain ⟨u1,u2,rfl,ru,rv⟩:=Vals.two r1
  obtain rfl:u1 = Value.ref x:=ru
  exact nw_init I1 hx Z kc fun s2 I2 => ⟨σ,H1,I2,q⟩
noncomputable def sAt (K:Frag) (CT:Addr) (ta tv:TE):TS:=fun D σ H => tv σ H fun y H1 => ta σ H1 fun x H2 => ∃ a C,x = .ref a /\ H2 a = some (nwO a C none) /\ WkC K C CT /\ ∀ dx,H2 dx = none -> dx ≠ a -> D.nx σ (upd (upd H2 dx (.xd [("at",y)])) a (nwO a C (some dx)))
theorem ps_setat {X:Cx} {CT:Addr} {o value:Expr} {ta tv:TE} {pos' pos:Pos} (ha:PE X o ta) (hv:PE X value tv) (hs:swapsWith value (some (.Attribute o "at" pos')) pos.line X.env = pure false:=by rfl):PS X (.Assign [.Attribute o "at" pos'] value pos) (sAt X.K CT ta tv):=by
  intro pins s σ H D I h
  refine plainObj_wpAny_Assign_Attribute (thn (hv pins s σ H _ I h) fun u s1 ⟨y,H1,I1,ry,q⟩ => thn (ha pins s1 σ H1 _ I1 q) fun ov s2 ⟨x,H2,I2,rx,a,C,ex,ea,kc,q2⟩ => ?_) hs
  subst ex
  obtain rfl:ov = Value.ref a:=rx
  exact nw_store I2 ea kc ry fun s3 dx hd ne I3 => ⟨σ,_,I3,q2 dx hd ne⟩
theorem ns_some_of {K:Frag} {h:Heap} {N:Addr} {mg:Str -> Option Value} {n:Str} {v:Value} (X:K.In h) (G:h.Ns N mg) (e:nsIn K N n = some (some v)):mg n = some v:=by
  obtain ⟨o,es,ep,ho,hd,_,hf⟩:=G
  unfold nsIn at e
  split at e
  . rename_i c d es' n' sl q
    have:=X _ _ q
    rw [ho] at this
    cases this
    cases hd
    split at e
    . rename_i en he
      cases e
      rw [← hf]
      unfold nsFind findBy
      rw [← Array.find?_toList,he]
      rfl
    . split at e <;> cases e
  . cases e
noncomputable def excInI (K:Frag) (C fI:Addr):Bool:=match K.lookup C with
  | some ⟨.type "type",_,.cls cd,sl⟩ => (match cd.mro,sl.toList with
    | .ref C' :: bm,[_,_,_,_,some (.builtin n),_] => C' == C && n == "ValueError.__new__" && !cd.hasDel && tailIn K bmVE bm && nsOkIn K cd.ns && nsIn K cd.ns "__init__" == some (some (.ref fI))
    | _,_ => false)
  | _ => false
theorem exc_objI {K:Frag} {h:Heap} {C fI:Addr} (X:K.In h) (q:excInI K C fI = true) :
    ∃ nm qn N bs bm hdct sn sub ab col dd k0 k1 k2 k3 k5 mN,h.get? C = some (excClassObj nm qn C N bs bm hdct sn sub ab col dd k0 k1 k2 k3 k5 "ValueError.__new__") /\ h.Ns N mN /\ mN "__init__" = some (.ref fI) /\ OwnTail h bmVE bm:=by
  unfold excInI at q
  split at q
  case h_2 => cases q
  rename_i dd cd sl ho
  split at q
  case h_2 => cases q
  rename_i C' bm k0 k1 k2 k3 n k5 hm hs
  simp only [Bool.and_eq_true,beq_iff_eq,Bool.not_eq_true'] at q
  obtain ⟨⟨⟨⟨⟨q1,q2⟩,q3⟩,q4⟩,q5⟩,q6⟩:=q
  subst q1 q2
  obtain ⟨c1,c2,c3,c4,c5,c6,c7,c8,c9,c10,c11⟩:=cd
  dsimp only at hm q3 q5 q6
  subst hm q3
  obtain ⟨l⟩:=sl
  have e:l = [k0,k1,k2,k3,some (.builtin "ValueError.__new__"),k5]:=hs
  subst e
  exact ⟨_,_,_,_,_,_,_,_,_,_,_,_,_,_,_,_,_,X C' _ ho,.of_isNs (isNs_of_in X q5),ns_some_of X (.of_isNs (isNs_of_in X q5)) q6,tail_of_in X q4⟩
section
variable {prog:Program} {w:World} {A:Around} {E:Value -> Shared -> Prop} {h:Heap} {g:Array GenState} {d:Drawn} {t:Nat} {os:OsState}
variable {nm q:Str} {C N:Addr} {bs bm:List Value} {hdct:Bool} {sn:List Str} {sub:List Value} {ab:Bool} {col:Option Bool} {dd:Option Addr} {k0 k1 k2 k3 k5:Option Value}
theorem type_call_initU (T:OwnTail h bmVE bm) {mN:Str -> Option Value} {rest:List Value} {fI:Addr} {oI:Obj} {Q:PySem.Fin -> Shared -> Prop}
    (hC:h.get? C = some (excClassObj nm q C N bs bm hdct sn sub ab col dd k0 k1 k2 k3 k5 "ValueError.__new__")) (hn:h.Ns N mN) (hi:mN "__init__" = some (.ref fI))
    (hfI:h.get? fI = some oI) (hfc:oI.cls = .type "function")
    (hq:∀ h' e,Heap.MadeExcOf h h' e (.ref C) rest ->
      wpAny (model prog w) A (call (.ref fI) (.ref e :: rest)) (fun r s' => r = .none /\ Q (.done (.ret (.ref e))) s') E ⟨h',g,d,t,os⟩) (hrest:rest.length <= sizeLine:=by size_fits) :
    wpAny (model prog w) A (Builtin.«type.__call__» ⟨.ref C :: rest,[]⟩) Q E ⟨h,g,d,t,os⟩:=by
  have Fn:=F.excBase_ValueError
  have hBn:bmVE.contains (.type "ValueError") = true:=by decide
  repeat (first | with_reducible refine wpAny_loadPart_at hC ?_ | with_reducible refine wpAny_madeBy_exc hC ?_ | wp_step)
  refine codeAny_call_builtin_code (Code.quiet_builtin _ Fn.quiet) (wpAny_check_new_subU Fn hBn T hC ?_)
  refine codeAny_exc_new_subU Fn hBn Fn T hC ?_ hrest
  show wpAny _ _ _ _ _ _
  have hC₁:=Heap.get?_push_of_some { cls:=.ref C,data:=.fields #[.ref h.objs.size,.none,.none,.none,.bool false,.none] }
    (Heap.get?_push_of_some { cls:=.type "tuple",data:=.seq rest.toArray } hC)
  have hfI₁:=Heap.get?_push_of_some { cls:=.ref C,data:=.fields #[.ref h.objs.size,.none,.none,.none,.bool false,.none] }
    (Heap.get?_push_of_some { cls:=.type "tuple",data:=.seq rest.toArray } hfI)
  have hn₁:((h.push { cls:=.type "tuple",data:=.seq rest.toArray }).push { cls:=.ref C,data:=.fields #[.ref h.objs.size,.none,.none,.none,.bool false,.none] }).Ns N mN :=
    let ⟨o,es,ep,e,r⟩:=hn; ⟨o,es,ep,Heap.get?_push_of_some _ (Heap.get?_push_of_some _ e),r⟩
  have hget:((h.push { cls:=.type "tuple",data:=.seq rest.toArray }).push
      { cls:=.ref C,data:=.fields #[.ref h.objs.size,.none,.none,.none,.bool false,.none] }).get? (h.objs.size + 1) = some
      { cls:=.ref C,data:=.fields #[.ref h.objs.size,.none,.none,.none,.bool false,.none] }:=by heap_get
  have hcC:(Value.ref C :: bm).contains (.ref C) = true:=by simp
  have T₁:=T.keeps (h':=(h.push { cls:=.type "tuple",data:=.seq rest.toArray }).push { cls:=.ref C,data:=.fields #[.ref h.objs.size,.none,.none,.none,.bool false,.none] })
    fun b o e => Heap.get?_push_of_some _ (Heap.get?_push_of_some _ e)
  unfold isInstance
  repeat (first | with_reducible refine wpAny_loadPart_at hget ?_ | (with_reducible refine wpAny_isSubtype_exc hC₁ ?_; rw [hcC]) | wp_step)
  show wpAny _ _ (typeLookup (.ref C) _) _ _ _
  refine wpAny_typeLookup_tail hC₁ hn₁ T₁ Fn.mroIs Fn.init.lookup ?_
  rw [hi]
  refine wpAny_holding (wpAny_bind ?_)
  unfold bindSpecial
  refine wpAny_bind (wpAny_typeOf (T:="function") ⟨_,hfI₁,hfc⟩ ?_)
  rw [if_pos (by decide)]
  refine wpAny_pure (wpAny_bind (wpAny_mono (hq _ (h.objs.size + 1) ⟨fun b o hb => Heap.get?_push_of_some _ (Heap.get?_push_of_some _ hb),Heap.get?_none_of_le (Nat.le_succ _),h.objs.size,hget,Heap.get?_none_of_le (Nat.le_refl _),?_⟩) (fun r s' hr => ?_) fun _ _ x => x))
  . exact Heap.get?_push_of_some _ (Heap.get?_push_at rfl rfl)
  . obtain ⟨rfl,hQ⟩:=hr
    wp_walk
    exact hQ
theorem call_initU (T:OwnTail h bmVE bm) {mN:Str -> Option Value} {rest:List Value} {fI:Addr} {oI:Obj} {Q:Value -> Shared -> Prop}
    (hC:h.get? C = some (excClassObj nm q C N bs bm hdct sn sub ab col dd k0 k1 k2 k3 k5 "ValueError.__new__")) (hn:h.Ns N mN) (hi:mN "__init__" = some (.ref fI))
    (hfI:h.get? fI = some oI) (hfc:oI.cls = .type "function")
    (hq:∀ h' e,Heap.MadeExcOf h h' e (.ref C) rest ->
      wpAny (model prog w) (A.under (.builtin "type.__call__" ⟨.ref C :: rest,[]⟩)) (call (.ref fI) (.ref e :: rest)) (fun r s' => r = .none /\ Q (.ref e) s') E ⟨h',g,d,t,os⟩) (hrest:rest.length <= sizeLine:=by size_fits) :
    wpAny (model prog w) A (call (.ref C) rest) Q E ⟨h,g,d,t,os⟩:=by
  have f1:=tc_lookup
  have f2:=tc_bind (.ref C)
  have hT:(⟨h,g,d,t,os⟩:Shared).TypeIs (.ref C) "type":=⟨_,hC,rfl⟩
  refine wpAny_call (codeAny_of_tree ?_)
  show wpAny _ _ (callAny (.ref C) _) _ _ _
  repeat (any_goals (first | assumption | with_reducible refine wpAny_loadPart_at hC ?_ | wp_step))
  refine ⟨rfl,?_⟩
  refine codeAny_call_builtin_at (Code.quiet_builtin _ (by decide +kernel)) entry_typeCall (wpAny_check_type_call_sub hC (type_call_initU (hrest:=hrest) T hC hn hi hfI hfc fun h' e hm => ?_))
  exact hq h' e hm
end
section
variable {M:Model} {A:Around} {E:Value -> Shared -> Prop} {s:Shared} {env:Env}
variable {nm q:Str} {C N:Addr} {bs bm:List Value} {hdct:Bool} {sn:List Str} {sub:List Value} {ab:Bool} {col:Option Bool} {dd:Option Addr} {k0 k1 k2 k3 k5:Option Value} {newId:String}
theorem raiseStmt_any {x:Sem Value} {Q:Flow -> Shared -> Prop} (hbase:bm.contains (.type "BaseException") = true) (hh:A.handled = none)
    (h:wpAny M A x (fun v s₁ => ∃ e dx vs sl,v = .ref e /\ s₁.heap.get? C = some (excClassObj nm q C N bs bm hdct sn sub ab col dd k0 k1 k2 k3 k5 newId) /\ s₁.heap.get? e = some ⟨.ref C,dx,.fields vs,sl⟩ /\ vs[1]? = some .none /\ E (.ref e) s₁) E s) :
    wpAny M A (raiseStmt env (some x) none) Q E s:=by
  have hcB:(Value.ref C :: bm).contains (.type "BaseException") = true:=by rw [List.contains_cons,hbase,Bool.or_true]
  unfold raiseStmt
  refine wpAny_bind (wpAny_mono h (fun v s₁ h₁ => ?_) fun _ _ x => x)
  obtain ⟨e,dx,vs,sl,rfl,hC,he,hv1,hE⟩:=h₁
  obtain ⟨hp,g,d,tk,os⟩:=s₁
  repeat (first | with_reducible refine wpAny_loadPart_at he ?_ | with_reducible refine wpAny_loadPart_at hC ?_ | (with_reducible refine wpAny_isSubtype_exc hC ?_; rw [hcB]) | wp_step)
  rw [hv1]
  refine wpAny_pure ?_
  rw [if_neg (by decide)]
  exact wpAny_pure (wpAny_raiseNew_none hh hE)
theorem Raise_any {x:Str} {np cpos pos:Pos} {args:List Expr} {Q:Flow -> Shared -> Prop}
    (hbase:bm.contains (.type "BaseException") = true) (hh:A.handled = none) (hplain:(backTo cpos (starEach args env)).any (·.1) = false)
    (h:wpAny M A (eval (.Name x np) env) (fun f s₁ => f = .ref C /\ wpAny M A (evalArgs (.ref C) true (backTo cpos (starEach args env)) [])
      (fun a s₂ => a.kw = [] /\ s₂.heap.get? C = some (excClassObj nm q C N bs bm hdct sn sub ab col dd k0 k1 k2 k3 k5 newId) /\
        wpAny M A (call (.ref C) a.pos) (fun v s₃ => ∃ e dx vs sl,v = .ref e /\ s₃.heap.get? C = some (excClassObj nm q C N bs bm hdct sn sub ab col dd k0 k1 k2 k3 k5 newId) /\ s₃.heap.get? e = some ⟨.ref C,dx,.fields vs,sl⟩ /\ vs[1]? = some .none /\ E (.ref e) s₃) E s₂) E s₁) E s) :
    wpAny M A (exec (.Raise (some (.Call (.Name x np) args [] cpos)) none pos) env) Q E s:=by
  rw [arm_exec_Raise]
  first
    | refine wpAny_bind (wpAny_standAt (raiseStmt_any (C:=C) (nm:=nm) (q:=q) (N:=N) (bs:=bs) (bm:=bm) (hdct:=hdct) (sn:=sn) (sub:=sub) (ab:=ab) (col:=col) (dd:=dd) (k0:=k0) (k1:=k1) (k2:=k2) (k3:=k3) (k5:=k5) (newId:=newId) hbase hh (wpAny_bind (wpAny_mono (wpAny_Call_ofName (wpAny_mono h (fun f s₁ h₁ => ?_) fun _ _ x => x)) (fun v s₃ h₃ => wpAny_bind (wpAny_standAt (wpAny_pure h₃))) fun _ _ x => x))))
    | (simp only [evalOpt,Option.map]; refine wpAny_bind (wpAny_standAt (raiseStmt_any (C:=C) (nm:=nm) (q:=q) (N:=N) (bs:=bs) (bm:=bm) (hdct:=hdct) (sn:=sn) (sub:=sub) (ab:=ab) (col:=col) (dd:=dd) (k0:=k0) (k1:=k1) (k2:=k2) (k3:=k3) (k5:=k5) (newId:=newId) hbase hh (wpAny_bind (wpAny_mono (wpAny_Call_ofName (wpAny_mono h (fun f s₁ h₁ => ?_) fun _ _ x => x)) (fun v s₃ h₃ => wpAny_bind (wpAny_standAt (wpAny_pure h₃))) fun _ _ x => x)))))
    | (refine wpAny_bind (wpAny_standAt (raiseStmt_any (C:=C) (nm:=nm) (q:=q) (N:=N) (bs:=bs) (bm:=bm) (hdct:=hdct) (sn:=sn) (sub:=sub) (ab:=ab) (col:=col) (dd:=dd) (k0:=k0) (k1:=k1) (k2:=k2) (k3:=k3) (k5:=k5) (newId:=newId) hbase hh ?_)); refine wpAny_bind (wpAny_mono (wpAny_Call_ofName (wpAny_mono h (fun f s₁ h₁ => ?_) fun _ _ x => x)) (fun v s₃ h₃ => wpAny_bind (wpAny_standAt (wpAny_pure h₃))) fun _ _ x => x))
  obtain ⟨rfl,h₁⟩:=h₁
  unfold callWith
  refine wpAny_bind (wpAny_holding (wpAny_mono h₁ (fun a s₂ h₂ => wpAny_bind (wpAny_standAt ?_)) fun _ _ x => x))
  obtain ⟨apos,akw⟩:=a
  obtain ⟨hkw,hC,h₂⟩:=h₂
  obtain rfl:akw = []:=hkw
  obtain ⟨hp,g,d,tk,os⟩:=s₂
  simp only [hplain]
  refine wpAny_bind (wpAny_keeperOf_exc hC ?_)
  exact wpAny_bind (wpAny_mono h₂ (fun v s₃ h₃ => wpAny_bind (wpAny_holding (wpAny_point (wpAny_pure h₃)))) fun _ _ x => x)
end
noncomputable def forget (H:Hp) (a:Addr):Hp:=fun b => if b = a then none else H b
theorem forget_same {H:Hp} {a:Addr}:forget H a a = none:=if_pos rfl
theorem forget_ne {H:Hp} {a b:Addr} (h:b ≠ a):forget H a b = H b:=if_neg h
theorem HOk.forget {P:Program} {w:World} {H:Hp} {h:Heap} {a:Addr} {φ:Heap -> Prop} (k:HOk P w H h) (ha:H a = some (.ext φ)):HOk P w (forget H a) h:=fun b o e => by
  have hb:b ≠ a:=fun z => by rw [z,forget_same] at e; cases e
  rw [forget_ne hb] at e
  refine (k b o e).stay (fun _ _ _ q => q) (fun c q => ?_) fun c xs q => ?_
  . rw [forget_ne fun z => by rw [z,ha] at q; cases q]; exact q
  . rw [forget_ne fun z => by rw [z,ha] at q; cases q]; exact q
theorem Un.forget {fs ex:List Addr} {H H':Hp} {h h':Heap} {a:Addr} {φ:Heap -> Prop} (u:Un fs ex H H' h h') (ha:H' a = some (.ext φ)):Un fs ex H (forget H' a) h h' where
  keep:=u.keep
  slot:=u.slot
  free:=fun b o e n hx => by
    unfold L2.forget
    split
    . rfl
    . exact u.free b o e n hx
  there:=u.there
  tups:=fun b xs q => by
    have:=u.tups b xs q
    rw [forget_ne fun z => by rw [z,ha] at this; cases this]; exact this
  frzs:=fun b o xs q => by
    have:=u.frzs b o xs q
    rw [forget_ne fun z => by rw [z,ha] at this; cases this]; exact this
  tbls:=fun b ps q => by
    obtain ⟨m,this⟩:=u.tbls b ps q
    exact ⟨m,by rw [forget_ne fun z => by rw [z,ha] at this; cases this]; exact this⟩
noncomputable def RaisesI (X:Cx) (E:XK):Prop:=∀ (pins:List (Addr×Obj)) (σ:St) (H:Hp) (s:Shared) (x C:Addr) (od:Option Addr),Inv X pins σ H s -> X.s₀.heap.get? x = none -> H x = some (nwO x C od) -> E (.ref C) od (forget H x) -> X.xe (.ref x) s
section
variable {P:Program} {w:World} {K:PySem.W.Frag} {mg:Str -> Option Value} {base:Heap} {N:List Str} {qual:Str} {scope:Scope} {f:Addr} {cd:Value} {A:Around} {outer:List Env} {s:Shared} {H:Hp} {E:XK}
theorem raisesI:RaisesI (cxOf (CXe P w) P w K mg base N qual scope f cd A outer s H E) E:=by
  intro pins σ H1 s1 x C od I hx0 hx q
  obtain ⟨o,vs,ho,hc,hd,h6,_,h1,h2⟩:=(I.hok x _ hx).1
  have u:Un (frs outer) [] H H1 s.heap s1.heap:=I.base
  refine fly_first I.ok.frames rfl I.stack ho hc hd h1 h2 fun h2' T fl n k => ?_
  have k':Kpt (s.heap.objs.size :: frs outer) [x] s1.heap h2':=k
  refine ⟨x,T,C,od,forget H1 x,rfl,I.os,I.bare,(u.forget hx).kpt k'.mv fun b hb => ?_,(I.hok.forget hx).kpt k' (fun b hb => ?_) (fun b hb => ?_),hx0,u.was n,forget_same,?_,fl,q⟩
  . rcases List.mem_cons.mp hb with z | z
    . rw [z]; exact Heap.get?_none_of_le (Nat.le_refl _)
    . rw [List.mem_singleton.mp z]; exact hx0
  . unfold L2.forget
    split
    . rfl
    . exact I.stkFree b hb
  . rw [List.mem_singleton.mp hb]; exact forget_same
  . unfold L2.forget
    split
    . rfl
    . exact I.hok.none_of n
end
structure MkI (K:Frag) (C fI:Addr):Prop where
  ex:excInI K C fI = true
  fn:isFn K (.ref fI) = true
noncomputable def tRaiseI (C:Addr) (sp:Sp) (E:XK) (t:TA):TS:=fun _ σ H => t σ H fun vs H1 => vs.length <= sizeLine /\ ∀ x,H1 x = none ->
  sp (.ref x :: vs) (upd H1 x (nwO x C none)) (fun v H2 => v = .non /\ ∃ od,H2 x = some (nwO x C od) /\ E (.ref C) od (forget H2 x)) E0
theorem ps_raiseI {X:Cx} {E:XK} {C f:Addr} {n:Str} {k:Nat} {fd:FuncData} {ps:List Str} {sp:Sp} {e:Expr} {es:List Expr} {t:TA} {np cpos pos:Pos} (M:MkI X.K C f) (Fo:FnOk X.prog X.w X.K X.mg X.base CX0 k f fd ps sp) (hb:Binds X.K fd ps []) (hr:Room (k + 1) X.A)
    (hri:RaisesI X E) (hex:X.ex = []) (hc:X.calm = true) (hg:Gl X n) (hm:X.mg n = some (.ref C)) (ha:PA X (e :: es) t)
    (hd:(n == ("__debug__":Str)) = false:=by decide) (he:starEach (e :: es) X.env = (false,eval e X.env) :: starEach es X.env:=by rfl) (hpl:(backTo cpos (starEach es X.env)).any (·.1) = false:=by rfl) :
    PS X (.Raise (some (.Call (.Name n np) (e :: es) [] cpos)) none pos) (tRaiseI C sp E t):=by
  intro pins s σ H D I h
  obtain ⟨nm,qn,N,bs,bm,hdct,sn,sub,ab,col,dd,k0,k1,k2,k3,k5,mN,hC,hN,hi,T0⟩:=exc_objI I.mod.kin M.ex
  have hpl':(backTo cpos (starEach (e :: es) X.env)).any (·.1) = false:=by rw [he]; exact hpl
  refine Raise_any (C:=C) (nm:=nm) (q:=qn) (N:=N) (bs:=bs) (bm:=bm) (hdct:=hdct) (sn:=sn) (sub:=sub) (ab:=ab) (col:=col) (dd:=dd) (k0:=k0) (k1:=k1) (k2:=k2) (k3:=k3) (k5:=k5) (newId:="ValueError.__new__")
    (T0.hasType (by decide)) (I.ok.hd hc) hpl' (ld_glob I hg hm ⟨rfl,?_⟩ hd)
  have hs:=ha cpos pins s σ H _ I h
  rw [he] at hs ⊢
  refine Calls.evalArgs_plain (thn hs fun us s1 ⟨vs,H1,I1,r,q1,q2⟩ => ?_)
  refine ⟨rfl,I1.bk C _ hC,?_⟩
  obtain ⟨hh,g,d,tk,os⟩:=s1
  obtain ⟨oI,hoI,hcI⟩:∃ oI,hh.get? f = some oI /\ oI.cls = .type "function":=by
    have e:=beq_iff_eq.mp M.fn
    obtain ⟨oI,e1,e2⟩:=Option.map_eq_some_iff.mp (show (X.K.lookup f).map (·.cls) = some (.type "function") from e)
    exact ⟨oI,I1.kIn f oI e1,e2⟩
  refine call_initU (T0.keeps I1.bk) (I1.bk C _ hC) (hN.keeps I1.bk) hi hoI hcI (fun h' x m => ?_) (by rw [← r.length]; exact q1)
  have fr:=I1.frsh hex m.new (I1.hok.none_of m.new)
  obtain ⟨t0,ht0,_,_⟩:=m.there
  have I2:=(I1.kept (t':=tk) (h':=h') m.keeps).track fr (o:=nwO x C none) (nwO_ok ⟨_,_,ht0,⟨rfl,rfl⟩,rfl,rfl,⟨t0,rfl⟩,rfl,rfl⟩)
  have hq:=q2 x fr.h
  have r2:Vals (V.ref x :: vs) (Value.ref x :: us):=.cons rfl r
  have hl:((Value.ref x :: us) ++ ([]:List Value)).length = ps.length:=by
    rw [List.append_nil,← r2.length]
    exact Fo.len _ _ _ _ hq
  have hbd:=hb ⟨h',g,d,tk,os⟩ (Value.ref x :: us) I2.kIn hl
  rw [List.append_nil] at hbd
  refine wpAny_call (codeAny_mono (Fo.run _ X.stack _ _ ⟨Value.ref x :: us,[]⟩ (Value.ref x :: us) (V.ref x :: vs) _ E0 (hr.make C us []) (I2.env0.make C us []) hbd r2 hq) fun r' s' hq' => ?_)
  cases r' with
  | error e => exact False.elim hq'
  | ok fl =>
    cases fl with
    | ret u =>
      obtain ⟨v,H',I3,rv,ev,od,hx,qE⟩:=I2.after hq'
      subst ev
      obtain ⟨⟨oc,odd,oda,osl⟩,ws,ho,hcl,hda,_,_,h1,_⟩:=(I3.hok x _ hx).1
      obtain ⟨hc1,hc2⟩:=hcl
      dsimp only at hc1 hda
      subst hc1 hda
      exact ⟨rv,x,odd,ws,osl,rfl,I3.bk C _ hC,ho,h1,hri pins σ H' s' x C od I3 fr.s hx qE⟩
    | next => exact False.elim hq'
    | brk => exact False.elim hq'
    | cont => exact False.elim hq'
structure DfM (K:Frag) (C:Addr) (st:Stmt) (name qual:Str) (ps:List Str):Prop where
  ex:∃ (f:Addr) (fd:FuncData),(∃ (oc:Value) (od:Option Addr) (dV kV doc pm:Value) (an:Option Addr) (cdv ct:Value) (osl:Array (Option Value)),
    fd = fnOf name qual (defArgs st) (defBody st) (defScope st) dV kV doc pm an cdv ct /\ K.lookup f = some ⟨oc,od,.func fd,osl⟩ /\ codeIn K cdv qual = true) /\ MkI K C f /\ Binds K fd ps []
theorem dfm_mk {K:Frag} {C f:Addr} {st:Stmt} {name qual:Str} {ps:List Str} {oc:Value} {od an:Option Addr} {osl:Array (Option Value)} {dV kV doc pm cdv ct:Value}
    (l:K.lookup f = some ⟨oc,od,.func (fnOf name qual (defArgs st) (defBody st) (defScope st) dV kV doc pm an cdv ct),osl⟩) (c:codeIn K cdv qual = true) (ex:excInI K C f = true) (fn:isFn K (.ref f) = true)
    (b:∀ us:List Value,us.length = ps.length -> bindArgs (fnOf name qual (defArgs st) (defBody st) (defScope st) dV kV doc pm an cdv ct) ⟨us,[]⟩ = pure (ps.zip us)):DfM K C st name qual ps :=
  ⟨f,_,⟨oc,od,dV,kV,doc,pm,an,cdv,ct,osl,rfl,l,c⟩,⟨ex,fn⟩,.all b⟩
structure OkI (P:Program) (w:World) (K:Frag) (mg:Str -> Option Value) (base:Heap) (k:Nat) (C:Addr) (ps:List Str) (sp:Sp):Prop where
  ex:∃ (j:Nat) (f:Addr) (fd:FuncData),j + 1 <= k /\ MkI K C f /\ Binds K fd ps [] /\ FnOk P w K mg base CX0 j f fd ps sp
section
variable {P:Program} {w:World} {K:Frag} {mg:Str -> Option Value} {base:Heap} {k:Nat} {C:Addr} {st:Stmt} {name qual:Str} {N ps:List Str} {sp:Sp}
theorem OkI.mono {j:Nat} (o:OkI P w K mg base j C ps sp) (h:j <= k):OkI P w K mg base k C ps sp:=let ⟨i,f,fd,a,b⟩:=o.ex; ⟨i,f,fd,Nat.le_trans a h,b⟩
theorem OkI.of (d:DfM K C st name qual ps) (S:FnScope N ps (defScope st)) (len:∀ vs H Q E,sp vs H Q E -> vs.length = ps.length)
    (hbody:∀ (f:Addr) (cdv:Value) (A:Around) (outer:List Env) (s:Shared) (H:Hp) (vs:List V) (Q:VK) (E:XK),Room k (A.deeper (envOfC qual (defScope st) s.heap.objs.size f cdv)) -> sp vs H Q E ->
      ∃ t,PSs (cxOf CX0 P w K mg base N qual (defScope st) f cdv A outer s H E).nox (defBody st) t /\ t { nx:=fun _ H' => Q .non H',rt:=Q } (start N vs) H):OkI P w K mg base (k + 2) C ps sp:=by
  obtain ⟨f,fd,⟨oc,od,dV,kV,doc,pm,an,cdv,ct,osl,rfl,lk,hcd⟩,m,b⟩:=d.ex
  refine ⟨k + 1,f,_,Nat.le_refl _,m,b,fn_of lk hcd S len fun A outer s H vs Q E hr hsp => ?_⟩
  obtain ⟨t,h,q⟩:=hbody f cdv A outer s H vs Q E hr hsp
  exact ⟨t,h.nox,q⟩
end
theorem ps_raiseN {X:Cx} {E:XK} {C:Addr} {n:Str} {k:Nat} {ps:List Str} {sp:Sp} {e:Expr} {es:List Expr} {t:TA} {np cpos pos:Pos} (o:OkI X.prog X.w X.K X.mg X.base k C ps sp) (hr:Room k X.A)
    (hri:RaisesI X E) (hex:X.ex = []) (hc:X.calm = true) (hg:Gl X n) (hm:X.mg n = some (.ref C)) (ha:PA X (e :: es) t)
    (hd:(n == ("__debug__":Str)) = false:=by decide) (he:starEach (e :: es) X.env = (false,eval e X.env) :: starEach es X.env:=by rfl) (hpl:(backTo cpos (starEach es X.env)).any (·.1) = false:=by rfl) :
    PS X (.Raise (some (.Call (.Name n np) (e :: es) [] cpos)) none pos) (tRaiseI C sp E t):=by
  obtain ⟨j,f,fd,hj,m,b,F⟩:=o.ex
  exact ps_raiseI m F b (hr.mono hj) hri hex hc hg hm ha hd he hpl
section
variable {K:Frag} {C CT:Addr} {sp:Sp} {E:XK} {t:TA} {ta tv:TE} {D:Ends} {σ:St} {H:Hp} {Q:VK}
theorem r_binit (k:t σ H fun vs H1 => ∃ x C z,vs = [.ref x,.str z] /\ H1 x = some (nwO x C none) /\ XCls K C /\ WkC K C CT /\ D.nx σ H1):tBinit K CT t D σ H:=k
theorem r_sat (k:tv σ H fun y H1 => ta σ H1 fun x H2 => ∃ a C,x = .ref a /\ H2 a = some (nwO a C none) /\ WkC K C CT /\ ∀ dx,H2 dx = none -> dx ≠ a -> D.nx σ (upd (upd H2 dx (.xd [("at",y)])) a (nwO a C (some dx)))):sAt K CT ta tv D σ H:=k
theorem r_raiseI (k:t σ H fun vs H1 => vs.length <= sizeLine /\ ∀ x,H1 x = none -> sp (.ref x :: vs) (upd H1 x (nwO x C none)) (fun v H2 => v = .non /\ ∃ od,H2 x = some (nwO x C od) /\ E (.ref C) od (forget H2 x)) E0):tRaiseI C sp E t D σ H:=k
theorem r_at (k:ta σ H fun x H1 => ∃ a C dx v,x = .ref a /\ H1 a = some (excO a C (some dx)) /\ XCls K C /\ WkC K C CT /\ H1 dx = some (.xd [("at",v)]) /\ Q v H1):tAt K CT ta σ H Q:=k
theorem nw_same {x dx:Addr} {a b c:HO} (hx:H x = none) (hd:upd H x a dx = none) (ne:dx ≠ x):Same H (forget (upd (upd (upd H x a) dx b) x c) x) /\ forget (upd (upd (upd H x a) dx b) x c) x dx = some b:=by
  refine ⟨fun p o h => ?_,?_⟩
  . have n1:p ≠ x:=ne_of_none h hx
    have n2:p ≠ dx:=fun z => by
      rw [← z,upd_ne n1,h] at hd
      cases hd
    rw [forget_ne n1,upd_ne n1,upd_ne n2,upd_ne n1]
    exact h
  . rw [forget_ne ne,upd_ne ne,upd_same]
end
noncomputable def rIsXT (K:PySem.W.Frag):List V -> Hp -> VK -> Prop:=fun xs H Q => ∃ (y C p:Addr) (od:Option Addr) (cs:List Addr),xs = [.ref y,.ref p] /\ H y = some (excO y C od) /\ XCls K C /\ H p = some (.tup (cs.map V.ref)) /\ (∀ c ∈ cs,PySem.W.kitOne K (.ref C) (.ref c) = some false) /\ Q (.bl false) H
theorem any_none {K:PySem.W.Frag} {t:Value}:∀ {cs:List Addr},(∀ c ∈ cs,PySem.W.kitOne K t (.ref c) = some false) -> PySem.W.kitAny K t (cs.map Value.ref) = some false
  | [],_ => rfl
  | c :: cs,h => by
    show (match PySem.W.kitOne K t (.ref c) with | some true => some true | some false => PySem.W.kitAny K t (cs.map Value.ref) | none => none) = _
    rw [h c (List.mem_cons_self ..)]
    exact any_none fun d hd => h d (List.mem_cons_of_mem _ hd)
theorem vals_refs:∀ {cs:List Addr} {us:List Value},Vals (cs.map V.ref) us -> us = cs.map Value.ref
  | [],_,.nil => rfl
  | c :: cs,_,.cons r t => by rw [show _ = Value.ref c from r,vals_refs t]; rfl
theorem call_isXT {X:Cx}:CallR X (.builtin "isinstance") (rIsXT X.K):=by
  intro pins s σ H xs us Q I r h
  obtain ⟨y,C,p,od,cs,rfl,hy,z,hp,e,q⟩:=h
  obtain ⟨u,u',rfl,ru,rv⟩:=Vals.two r
  obtain rfl:u = Value.ref y:=ru
  obtain rfl:u' = Value.ref p:=rv
  obtain ⟨_,its,rt,tp⟩:=I.hok p _ hp
  obtain rfl:=vals_refs rt
  obtain ⟨o,ho,hc,n,hd⟩:=tp
  obtain ⟨oc,od,oo,os⟩:=o
  dsimp only at hc hd
  subst hc hd
  exact PySem.W.kia_tup (kitx_exc z) I.kIn (I.hok y _ hy).1.kitR ho (any_none e) (by intro q; cases q) fun tk => ⟨.bl false,H,I.tok tk,rfl,q⟩
theorem r_xif {c:TT} {t u:TX} {D:Ends} {E:XK} {σ:St} {H:Hp} (k:c σ H fun b H1 => if b = true then t D E σ H1 else u D E σ H1):xIf c t u D E σ H:=k
section
variable {K:PySem.W.Frag} {H:Hp} {Q:VK}
theorem r_tupN {xs:List V} (k:∀ p G,H p = none -> Same H G -> G p = some (.tup xs) -> Q (.ref p) G) (h:xs.length <= 1000:=by exact Nat.le_of_ble_eq_true rfl):tupK Q xs H:=r_tupK (h:=h) fun p hp => k p _ hp (Same.new hp) upd_same
theorem r_lstN {xs:List V} (k:∀ p G,H p = none -> Same H G -> G p = some (.lst xs) -> Q (.ref p) G) (h:xs.length <= 1000:=by exact Nat.le_of_ble_eq_true rfl):lstK Q xs H:=r_lstK (h:=h) fun p hp => k p _ hp (Same.new hp) upd_same
theorem r_lstP {P:V -> Prop} {xs:List V} (n:Nat) (hn:xs.length = n) (h:n <= 1000) (hp:∀ v ∈ xs,P v) (k:∀ l G (ys:List V),Same H G -> G l = some (.lst ys) -> ys.length = n -> (∀ v ∈ ys,P v) -> Q (.ref l) G):lstK Q xs H:=r_lstK (h:=by omega) fun l hl => k l _ xs (Same.new hl) upd_same hn hp
end
theorem cut_nW (xs:List V) (k:Nat):cutV xs none (some (k:Int)) = xs.take k:=by
  unfold cutV
  rw [HT.sIx_nat,HT.sIx_none,List.drop_zero,Nat.sub_zero]
  by_cases h:k <= xs.length
  . rw [Nat.min_eq_left h]
  . rw [Nat.min_eq_right (by omega),List.take_length,List.take_of_length_le (by omega)]
theorem cut_fromW {xs:List V} (n:Nat) (h:n <= xs.length):cutV xs (some (n:Int)) none = xs.drop n:=by
  unfold cutV
  have e1:HT.sIx xs.length xs.length none = xs.length:=rfl
  have e2:HT.sIx xs.length 0 (some (n:Int)) = n:=by
    unfold HT.sIx
    dsimp only
    split <;> omega
  rw [e1,e2,List.take_of_length_le (by rw [List.length_drop]; omega)]
end L2
namespace L2
open PySem PySem.Spec PyProof.Rows
section
variable {X:Cx}
noncomputable def rSplit:V -> List V -> Hp -> VK -> Prop:=fun x vs H Q => ∃ z y:Str,x = .str z /\ vs = [.str y] /\ (y.length == 0) = false /\ z.length <= 1000000 /\ ∀ l,H l = none -> Q (.ref l) (upd H l (.lst ((Txt.split z y).map V.str)))
theorem texts_vals:∀ (l:List (Str×Tok)),Vals ((l.map (·.1)).map V.str) (strValues l)
  | [] => .nil
  | p :: r => .cons ⟨p.2,rfl⟩ (texts_vals r)
theorem mt_split:MtR X "str.split" rSplit:=by
  intro pins s σ H x vs v us Q I rx rv h
  obtain ⟨z,y,rfl,rfl,hy,hz,q⟩:=h
  obtain ⟨t,rfl⟩:=rx
  obtain ⟨u,rfl,ru⟩:=rv.one
  obtain ⟨t',rfl⟩:=ru
  have hn:(Builtin.Str.partsBetween z (Builtin.Str.occurrences z y 0 z.length (z.length + 1)) y.length).length <= z.length + 2:=by
    have:=StrLaws.occ_length_le z y 0 z.length (z.length + 1)
    rw [length_partsBetween]
    omega
  have fin:∀ (l:List (Str×Tok)) (k:Nat),l.map (·.1) = Txt.split z y -> l.length <= 2000000 -> EP X pins σ Q (.ref s.heap.objs.size) { s with heap:=s.heap.push { cls:=.type "list",data:=.seq (strValues l).toArray },toks:=k }:=fun l k e hl => by
    refine ⟨.ref s.heap.objs.size,_,I.laid (t':=k) (a:=s.heap.objs.size) (o:=.lst ((Txt.split z y).map V.str)) (fun b o g => Heap.get?_push_of_some _ g) (Nat.le_refl _) ⟨?_,_,0,?_,Heap.get?_push_size _ rfl⟩,rfl,q _ (I.hok.fresh (Nat.le_refl _))⟩
    . rw [← e,List.length_map,List.length_map,sizeLine_eq]
      omega
    . rw [← e]
      exact texts_vals l
  have sz:z.length <= sizeLine:=by rw [sizeLine_eq]; omega
  cases h1:(decide (z.length < y.length) || decide (Builtin.Str.strKind z < Builtin.Str.strKind y))
  . cases hf:(Builtin.Str.occurrences z y 0 z.length (z.length + 1)).isEmpty
    . refine call_meets F.slot_str_split (typeIs_str _ _ _) F.entry_str_split (F.args_str_split_2 _ _) (meets_str_split_sep z y t t' h1 hy hf sz (by rw [sizeLine_eq]; omega)) ?_
      show wants _ _ _ { s with toks:=_,heap:=s.heap.push { cls:=.type "list",data:=.seq (strsFrom s.toks (Builtin.Str.partsBetween z (Builtin.Str.occurrences z y 0 z.length (z.length + 1)) y.length)).toArray } }
      rw [strsFrom_eq]
      have e:=numbered_texts s.toks (Builtin.Str.partsBetween z (Builtin.Str.occurrences z y 0 z.length (z.length + 1)) y.length)
      have e2:=congrArg List.length e
      rw [List.length_map] at e2
      exact fin _ _ (e.trans ((if_neg (ne_true_of_eq_false h1)).trans (if_neg (ne_true_of_eq_false hf))).symm) (by omega)
    . refine call_meets F.slot_str_split (typeIs_str _ _ _) F.entry_str_split (F.args_str_split_2 _ _) (meets_str_split_not_found z y t t' h1 hy hf) ?_
      exact fin [(z,t)] s.toks ((if_neg (ne_true_of_eq_false h1)).trans (if_pos hf)).symm (by simp)
  . refine call_meets F.slot_str_split (typeIs_str _ _ _) F.entry_str_split (F.args_str_split_2 _ _) (meets_str_split_cannot_occur z y t t' h1) ?_
    exact fin [(z,t)] s.toks (if_pos h1).symm (by simp)
end
end L2
namespace L2
open PySem PySem.Spec PyProof.Rows
noncomputable def Its (z:Str):It:=⟨fun i _ => i < z.cps.size,fun i H x H' => H' = H /\ ∃ c,z.cps[i]? = some c /\ x = .str ⟨#[c]⟩,fun i _ => z.cps.size <= i⟩
theorem turn_signs {P:Program} {w:World} {K:PySem.W.Frag} {tg:Expr} (it:Addr) (z:Str) (t:Tok) (n:String) (hn:n = "str_ascii_iterator" ∨ n = "str_iterator"):Turn P w K tg (Its z) [it] it (fun i h => h.IsStrIter it n z t i) where
  mem:=by simp
  obj:=fun i h st b hb => by
    obtain rfl:b = it:=by simpa using hb
    obtain ⟨o,e,c,d⟩:=st
    exact ⟨o,e,fun v y => by rw [d] at y; cases y⟩
  keep:=fun i h h' st k => let ⟨o,e,r⟩:=st; ⟨o,k it (by simp) o e,r⟩
  item:=by
    intro X hP hw hK hc i pins s σ H E I hf st hg
    subst hP hw hK
    obtain ⟨f0,f1,f2,f3,f4,f5⟩:=hf it (by simp)
    have hg:i < z.cps.size:=hg
    have ec:z.cps[i]? = some z.cps[i]:=by simp [hg]
    have fin:∀ h',h'.IsStrIter it n z t (i + 1) -> Heap.SameBut it s.heap h' -> ∃ u,some (Value.str ⟨#[z.cps[i]]⟩ s.toks) = some u /\
        wpAny (model X.prog X.w) X.A (letOwnedTupleGo tg (.ref it) u) (fun _ s2 => ∃ x H',Inv X pins σ H' s2 /\ RelV x u /\ (Its z).yld i H x H' /\ s2.heap.IsStrIter it n z t (i + 1) /\ ∀ b ∈ [it],H' b = none) E { s with heap:=h',toks:=s.toks + 1 }:=fun h' st' sb => by
      have I1:Inv X pins σ H { s with heap:=h',toks:=s.toks + 1 }:=I.turned (fun b o hb e => (sb.2 b hb).trans e) f0 f1 f3 f4 f5
      obtain ⟨o,e,c,d⟩:=id st'
      have hno:["enumerate","zip","dict_itemiterator","dict_reverseitemiterator","odict_iterator","itertools.zip_longest","itertools.pairwise"].contains n = false:=by
        rcases hn with rfl | rfl <;> decide
      exact ⟨_,rfl,go_of (s:={ s with heap:=h',toks:=s.toks + 1 }) e c d hno ⟨.str ⟨#[z.cps[i]]⟩,H,I1,⟨_,rfl⟩,⟨rfl,_,ec,rfl⟩,st',fun b hb => (hf b hb).1⟩⟩
    rcases hn with rfl | rfl
    . exact wpAny_pyNext_ascii_item st ec fin
    . exact wpAny_pyNext_wide_item st ec fin
  done:=by
    intro X hP hw hK hc i pins s σ H E I hf st hg
    subst hP hw hK
    obtain ⟨f0,f1,f2,f3,f4,f5⟩:=hf it (by simp)
    have hg:z.cps.size <= i:=hg
    have ec:z.cps[i]? = none:=by simp [hg]
    rcases hn with rfl | rfl
    . exact wpAny_pyNext_ascii_end (I.ok.hd hc) st ec fun h' eb => ⟨rfl,I.turned (t':=s.toks) (fun b o hb e => eb b o hb e) f0 f1 f3 f4 f5⟩
    . exact wpAny_pyNext_wide_end (I.ok.hd hc) st ec fun h' eb => ⟨rfl,I.turned (t':=s.toks) (fun b o hb e => eb b o hb e) f0 f1 f3 f4 f5⟩
  self:=fun _ _ _ _ _ st h => by
    rcases hn with rfl | rfl
    . exact wpAny_pyIter_striter_ascii st h
    . exact wpAny_pyIter_striter_wide st h
section
variable {X:Cx} {tg:Expr}
noncomputable def iSigns (tl:TE):TI:=fun σ H R => tl σ H fun x H1 => ∃ z,x = .str z /\ R (Its z) H1
theorem pi_signs {l:Expr} {tl:TE} (hl:PE X l tl):PI X tg l (iSigns tl):=by
  intro pins s σ H R I h
  refine thn (hl pins s σ H _ I h) fun v s1 ⟨x,H1,I1,r1,z,e,q⟩ => ?_
  subst e
  obtain ⟨t,rfl⟩:=r1
  refine wpAny_pyIter_strU ?_
  refine ⟨s1.heap.objs.size,[s1.heap.objs.size],_,_,H1,rfl,I1.kept (t':=s1.toks) fun b o e => Heap.get?_push_of_some _ e,turn_signs _ z t (strIterType z) ?_,⟨_,Heap.get?_push_size _ rfl,rfl,rfl⟩,fun b hb => ?_,q⟩
  . unfold strIterType
    split
    . exact .inl rfl
    . exact .inr rfl
  . obtain rfl:b = s1.heap.objs.size:=by simpa using hb
    exact I1.fpOk (Nat.le_refl _) (I1.hok.fresh (Nat.le_refl _))
noncomputable def rInTx:R2:=fun x y H Q => ∃ (c:Nat) (z:Str),x = .str ⟨#[c]⟩ /\ y = .str z /\ Q (.bl (decide (c ∈ z.cps.toList))) H
theorem op_inTx:OpR X (compareOp .In) rInTx:=by
  intro pins s σ H x y v u Q I rx ry h
  obtain ⟨c,z,rfl,rfl,q⟩:=h
  obtain ⟨t,rfl⟩:=rx
  obtain ⟨t',rfl⟩:=ry
  refine P.in_str ⟨.bl _,H,I,rfl,?_⟩
  rw [StrLaws.found_one]
  exact q
noncomputable def rAllB (K:PySem.W.Frag):List V -> Hp -> VK -> Prop:=fun vs H Q => ∃ (p:Addr) (bs:List Bool),vs = [.ref p] /\ SqL K H p (bs.map V.bl) /\ Q (.bl (bs.all id)) H
theorem all_range:∀ (bs:List Bool),(List.range bs.length).all (fun i => (bs[i]?).getD true) = bs.all id:=by
  intro bs
  rw [Bool.eq_iff_iff,List.all_eq_true,List.all_eq_true]
  constructor
  . intro h x hx
    obtain ⟨i,hi,e⟩:=List.getElem_of_mem hx
    have q:=h i (List.mem_range.mpr hi)
    rw [List.getElem?_eq_getElem hi,e] at q
    exact q
  . intro h i hi
    have hi:=List.mem_range.mp hi
    have q:=h bs[i] (List.getElem_mem hi)
    rw [List.getElem?_eq_getElem hi]
    exact q
theorem c_allB (hc:X.calm = true):CallR X (.builtin "all") (rAllB X.K):=by
  intro pins s σ H xs us Q I r h
  obtain ⟨p,bs,rfl,hp,q⟩:=h
  obtain ⟨u,rfl,rx⟩:=r.one
  cases rx
  obtain ⟨its,rl,ht,hz⟩:=I.list hp
  have hlt:p < s.heap.objs.size:=by
    obtain ⟨_,e,_⟩:=ht.isList
    exact Heap.lt_size e
  have hlen:=rl.length
  rw [List.length_map] at hlen
  refine call_all_walk (wpAny_pyIter_list ht.isList ?_)
  refine ⟨s.heap.objs.size,[s.heap.objs.size,p],[s.heap.objs.size],its.toArray.size,_,_,fun i => (bs[i]?).getD true,rfl,Walks.list (A:=X.A.in1) (I.ok.hd hc) _ p (Nat.ne_of_lt hlt) its.toArray,⟨⟨_,Heap.get?_push_size _ rfl,rfl,rfl⟩,ht.isList.at fun o e => Heap.get?_push_of_some _ e⟩,?_,fun h' tk hk => ?_⟩
  . intro i v s' Q' E' hv hq
    have hv:its[i]? = some v:=by simpa using hv
    have hi:i < bs.length:=by
      have:=(List.getElem?_eq_some_iff.mp hv).1
      omega
    obtain ⟨u,e1,r1⟩:=rl.get (i:=i) (x:=.bl bs[i]) (by simp [hi])
    rw [hv] at e1
    cases e1
    obtain rfl:v = Value.bool bs[i]:=r1
    refine wpAny_truthy_bool ?_
    have hq:Q' ((bs[i]?).getD true) s':=hq
    rw [List.getElem?_eq_getElem hi] at hq
    exact hq
  . refine ⟨.bl _,H,I.kept (t':=tk) fun b o e => hk b o (fun z => ?_) (Heap.get?_push_of_some _ e),?_,q⟩
    . exact absurd (Heap.lt_size e) (by rw [List.mem_singleton.mp z]; exact Nat.lt_irrefl _)
    . show Value.bool _ = Value.bool _
      rw [List.size_toArray,← hlen,all_range]
end
section
variable {te:TE} {Q:VK} {H:Hp} {σ caps:St} {wi:TI} {tc:TT} {K:PySem.W.Frag}
theorem r_iSigns {tl:TE} {R:It -> Hp -> Prop} (k:tl σ H fun x H1 => ∃ z,x = .str z /\ R (Its z) H1):iSigns tl σ H R:=k
theorem r_compS {z:Str} (hn:z.length <= 1000) (Pv:Addr -> Nat -> List V -> Hp -> Prop) (h0:∀ acc,H acc = none -> Pv acc 0 [] (upd H acc (.lst [])))
    (hs:∀ acc i ys H1 c,H acc = none -> z.cps[i]? = some c -> ys.length = i -> H1 acc = some (.lst ys) -> Pv acc i ys H1 -> te (some (.str ⟨#[c]⟩) :: caps) H1 (cNext z.length acc (Pv acc) ys i))
    (hd:∀ acc ys H1,H acc = none -> H1 acc = some (.lst ys) -> ys.length = z.length -> Pv acc z.length ys H1 -> Q (.ref acc) H1):compK te none (gName 0) (List.replicate 1 none) caps Q (Its z) H:=by
  intro acc hacc
  refine ⟨cW z.length acc (Pv acc),⟨z.length,by simp,Nat.zero_le _,rfl,upd_same,h0 acc hacc⟩,?_⟩
  rintro i m ys H1 ⟨rfl,hi,hl,ha,p⟩
  refine ⟨ha,?_⟩
  by_cases hlt:i < z.length
  . refine .inr ⟨small1000 (by omega),hlt,fun us x H' hu y => ?_⟩
    obtain ⟨e,c,ec,y⟩:=y
    subst e y
    obtain ⟨o,rfl⟩:=len1 hu
    exact ⟨⟨[some (.str ⟨#[c]⟩)],rfl,rfl⟩,hs acc i ys _ c hacc ec hl ha p⟩
  . have e:i = z.length:=by omega
    subst e
    exact .inl ⟨Nat.le_refl _,hd acc ys H1 hacc ha hl p⟩
theorem r_inTx {c:Nat} {z:Str} (k:Q (.bl (decide (c ∈ z.cps.toList))) H):rInTx (.str ⟨#[c]⟩) (.str z) H Q:=⟨c,z,rfl,rfl,k⟩
theorem r_allB {p:Addr} {bs:List Bool} (h:H p = some (.lst (bs.map V.bl))) (k:Q (.bl (bs.all id)) H):rAllB K [.ref p] H Q:=⟨p,bs,rfl,SqL.of h,k⟩
theorem r_split {z y:Str} (hy:(y.length == 0) = false) (hz:z.length <= 1000000) (k:∀ l,H l = none -> Q (.ref l) (upd H l (.lst ((Txt.split z y).map V.str)))):rSplit (.str z) [.str y] H Q:=⟨z,y,rfl,rfl,hy,hz,k⟩
end
section
variable {r r':R2} {ta tb tc:TE} {x y:V} {σ:St} {H:Hp} {Q:VK} {c:Bool}
noncomputable def chnD (r':R2) (y:V) (Q:VK):VK:=fun w' H4 => r' y w' H4 Q
noncomputable def chnC (r':R2) (tc:TE) (y:V) (σ:St) (Q:VK):VK:=fun z H3 => ∃ k,z = .bl k /\ (if k = true then tc σ H3 (chnD r' y Q) else Q (.bl false) H3)
noncomputable def chnB (r r':R2) (tc:TE) (x:V) (σ:St) (Q:VK):VK:=fun y H2 => r x y H2 (chnC r' tc y σ Q)
noncomputable def chnA (r r':R2) (tb tc:TE) (σ:St) (Q:VK):VK:=fun x H1 => tb σ H1 (chnB r r' tc x σ Q)
theorem r_chain (k:ta σ H (chnA r r' tb tc σ Q)):tChain r r' ta tb tc σ H Q:=k
theorem r_chnA (k:tb σ H (chnB r r' tc x σ Q)):chnA r r' tb tc σ Q x H:=k
theorem r_chnB (k:r x y H (chnC r' tc y σ Q)):chnB r r' tc x σ Q y H:=k
theorem r_chnC (k:if c = true then tc σ H (chnD r' y Q) else Q (.bl false) H):chnC r' tc y σ Q (.bl c) H:=⟨c,rfl,k⟩
theorem r_chnD (k:r' x y H Q):chnD r' x Q y H:=k
end
section
variable {K:PySem.W.Frag} {H H':Hp}
noncomputable def NS (K:PySem.W.Frag) (H:Hp) (x:V):Prop:=∃ t,TyOf K H x t /\ PySem.W.kitOne K t (.type "str") = some false
theorem NS.int (i:Int):NS K H (.int i):=⟨_,.int i,kit_int_str⟩
theorem NS.lst {p:Addr} {xs:List V} (h:H p = some (.lst xs)):NS K H (.ref p):=⟨_,.lst h,kit_list_str⟩
end
noncomputable def pst:List Nat -> Nat -> Nat -> Bool
  | [],k,n => decide (k <= 4) && (decide (1 <= n) && decide (n <= 8))
  | c :: r,k,n => if c = 46 then (decide (1 <= n) && decide (n <= 8)) && pst r (k + 1) 0 else (decide (97 <= c) && decide (c < 123)) && pst r k (n + 1)
noncomputable def postB (z:Str):Bool:=pst z.cps.toList 1 0
noncomputable def partB (z:Str):Bool:=(decide (1 <= z.length) && decide (z.length <= 8)) && z.cps.toList.all fun c => decide (97 <= c) && decide (c < 123)
theorem pst_part:∀ (l:List Nat) (r:List Nat) (k n:Nat),46 ∉ l -> pst (l ++ r) k n = ((l.all fun c => decide (97 <= c) && decide (c < 123)) && pst r k (n + l.length))
  | [],r,k,n,_ => by simp
  | c :: l,r,k,n,h => by
    have h1:c ≠ 46:=fun e => h (by simp [e])
    have h2:46 ∉ l:=fun e => h (by simp [e])
    show (if c = 46 then _ else _) = _
    rw [if_neg h1]
    show ((decide (97 <= c) && decide (c < 123)) && pst (l ++ r) k (n + 1)) = _
    rw [pst_part l r k (n + 1) h2,List.all_cons,List.length_cons,show n + 1 + l.length = n + (l.length + 1) by omega]
    simp only [Bool.and_assoc]
theorem join_cps1 (x:Str):(Str.join ⟨#[46]⟩ [x]).cps.toList = x.cps.toList:=rfl
theorem join_cps2 (x y:Str) (r:List Str):(Str.join ⟨#[46]⟩ (x :: y :: r)).cps.toList = x.cps.toList ++ 46 :: (Str.join ⟨#[46]⟩ (y :: r)).cps.toList:=by
  show (((x.cps ++ #[46]) ++ (Str.join ⟨#[46]⟩ (y :: r)).cps):Array Nat).toList = _
  simp
theorem len_cps (z:Str):z.length = z.cps.toList.length:=by unfold Str.length; simp
theorem pst_join:∀ (ps:List Str) (x:Str) (k:Nat),(∀ p ∈ x :: ps,46 ∉ p.cps.toList) -> pst (Str.join ⟨#[46]⟩ (x :: ps)).cps.toList k 0 = (decide (k + ps.length <= 4) && (x :: ps).all partB)
  | [],x,k,h => by
    rw [join_cps1]
    have q:=pst_part x.cps.toList [] k 0 (h x (by simp))
    rw [List.append_nil] at q
    rw [q,Nat.zero_add,← len_cps]
    show (_ && (decide (k <= 4) && _)) = _
    simp only [List.all_cons,List.all_nil,Bool.and_true,partB,List.length_nil,Nat.add_zero]
    cases decide (k <= 4) <;> cases (decide (1 <= x.length) && decide (x.length <= 8)) <;> cases (x.cps.toList.all fun c => decide (97 <= c) && decide (c < 123)) <;> rfl
  | y :: r,x,k,h => by
    have ih:=pst_join r y (k + 1) fun p hp => h p (List.mem_cons_of_mem _ hp)
    rw [join_cps2,pst_part _ _ k 0 (h x (by simp))]
    show (_ && (if 46 = 46 then _ else _)) = _
    rw [if_pos rfl,ih,Nat.zero_add,← len_cps,List.all_cons (a:=x),List.length_cons]
    show (_ && (_ && (decide (k + 1 + r.length <= 4) && _))) = (decide (k + (r.length + 1) <= 4) && (((_ && _) && _) && _))
    rw [show k + 1 + r.length = k + (r.length + 1) by omega]
    cases decide (k + (r.length + 1) <= 4) <;> cases decide (1 <= x.length) <;> cases decide (x.length <= 8) <;> cases (x.cps.toList.all fun c => decide (97 <= c) && decide (c < 123)) <;> cases (y :: r).all partB <;> rfl
theorem post_split (z:Str):postB z = (decide ((Txt.split z ⟨#[46]⟩).length <= 4) && (Txt.split z ⟨#[46]⟩).all partB):=by
  have h1:=StrLaws.join_split z ⟨#[46]⟩
  have h2:=StrLaws.split_free z 46
  have h3:=split_pos z ⟨#[46]⟩
  unfold postB
  generalize hs:Txt.split z ⟨#[46]⟩ = ps at h1 h2 h3 ⊢
  cases ps with
  | nil => simp at h3
  | cons x r =>
    rw [← h1,pst_join r x 1 h2,List.length_cons,show 1 + r.length = r.length + 1 by omega]
theorem sp_short {x y a:Str} (h:a ∈ Txt.split x y):a.length <= x.length:=part_short h
theorem sp_few (x y:Str):(Txt.split x y).length <= x.length + 2:=split_le x y
noncomputable def PostQ (K:PySem.W.Frag) (H:Hp) (x:V) (b:Bool):Prop:=(∃ z:Str,x = .str z /\ z.length <= 1000 /\ b = postB z) ∨ (NS K H x /\ b = false)
theorem TyOf.sm {K:PySem.W.Frag} {H H':Hp} {x:V} {t:Value} (ty:TyOf K H x t) (s:Same H H'):TyOf K H' x t:=by
  cases ty with
  | non => exact .non
  | bl x => exact .bl x
  | int i => exact .int i
  | str x => exact .str x
  | flt x => exact .flt x
  | lst e => exact .lst (s _ _ e)
  | frz e => exact .frz (s _ _ e)
  | tup e => exact .tup (s _ _ e)
  | dK e => exact .dK (s _ _ e)
  | dT e => exact .dT (s _ _ e)
  | ins e cl ha hn htk hm => exact .ins (s _ _ e) cl ha hn htk hm
theorem NS.sm {K:PySem.W.Frag} {H H':Hp} {x:V} (h:NS K H x) (s:Same H H'):NS K H' x:=let ⟨t,ty,e⟩:=h; ⟨t,TyOf.sm ty s,e⟩
theorem PostQ.sm {K:PySem.W.Frag} {H H':Hp} {x:V} {b:Bool} (h:PostQ K H x b) (s:Same H H'):PostQ K H' x b:=h.imp id fun z => ⟨z.1.sm s,z.2⟩
theorem cps_app (a b:Str):(a ++ b).cps.toList = a.cps.toList ++ b.cps.toList:=by
  show (a.cps ++ b.cps).toList = _
  simp
theorem len_plus (a b:Str):(a ++ b).length = a.length + b.length:=by
  rw [len_cps,len_cps,len_cps,cps_app,List.length_append]
theorem letters_mem (c:Nat):decide (c ∈ ("abcdefghijklmnopqrstuvwxyz":Str).cps.toList) = (decide (97 <= c) && decide (c < 123)):=by
  have e:("abcdefghijklmnopqrstuvwxyz":Str).cps.toList = List.range' 97 26:=by decide +kernel
  rw [e,Bool.eq_iff_iff,Bool.and_eq_true,decide_eq_true_iff,decide_eq_true_iff,decide_eq_true_iff]
  exact List.mem_range'_1
end L2
namespace L2
open PySem PySem.Spec PyProof.Rows
theorem inV_strs {s:Str} {ys:List Str}:inV (.str s) (ys.map V.str) = decide (s ∈ ys):=by
  unfold inV
  induction ys with
  | nil => simp
  | cons y r ih =>
    rw [List.map_cons,List.any_cons,ih]
    show ((y == s) || _) = _
    by_cases e:y = s
    . subst e
      simp
    . have e2:¬ s = y:=fun z => e z.symm
      simp [e,e2]
theorem flat_strs:∀ ys:List Str,(ys.map V.str).all flatV = true
  | [] => rfl
  | y :: r => by rw [List.map_cons,List.all_cons,flat_strs r]; rfl
section
variable {σ:St} {H:Hp} {Q:VK} {K:PySem.W.Frag}
end
noncomputable abbrev sC:Str:=Str.ofString "c"
noncomputable def n2:List TRun:=[(sA,sB,Rat.divInt 1 2),(sB,sC,Rat.divInt 1 3)]
end L2
namespace L2
open PySem PySem.Spec PyProof.Rows
inductive Wsh where
  | after (s u:Str) (q:Rat) | within (s u:Str) (q:Rat) | wit (s u:Str) | frm (s:Str) (q:Rat)
noncomputable def WishQ (H:Hp) (v:V):Wsh -> Prop
  | .after s u q => ∃ p t,v = .ref p /\ H p = some (.tup [.str "after",.str s,.str u,t]) /\ FrQ H t q
  | .within s u q => ∃ p t,v = .ref p /\ H p = some (.tup [.str "within",.str s,.str u,t]) /\ FrQ H t q
  | .wit s u => ∃ p,v = .ref p /\ H p = some (.tup [.str "with",.str s,.str u])
  | .frm s q => ∃ p t,v = .ref p /\ H p = some (.tup [.str "from",.str s,t]) /\ FrQ H t q
theorem WishQ.tk {H H':Hp} {v:V}:∀ {w:Wsh},WishQ H v w -> TK H H' -> WishQ H' v w
  | .after _ _ _,⟨p,t,e,h,f⟩,k => ⟨p,t,e,k _ _ h,f.tk k⟩
  | .within _ _ _,⟨p,t,e,h,f⟩,k => ⟨p,t,e,k _ _ h,f.tk k⟩
  | .wit _ _,⟨p,e,h⟩,k => ⟨p,e,k _ _ h⟩
  | .frm _ _,⟨p,t,e,h,f⟩,k => ⟨p,t,e,k _ _ h,f.tk k⟩
noncomputable def PostS (s:Str):Prop:=postB s = true /\ s.length <= 100
theorem PostS.q {K:PySem.W.Frag} {H:Hp} {s:Str} (h:PostS s):PostQ K H (.str s) true:=.inl ⟨s,rfl,by have:=h.2; omega,h.1.symm⟩
noncomputable def SmR (q:Rat):Prop:=Sm 8000 q.num /\ Sm 8000 (q.den:Int)
noncomputable def Wsh.ok:Wsh -> Prop
  | .after s u q => PostS s /\ PostS u /\ s ≠ u /\ SmR q
  | .within s u q => PostS s /\ PostS u /\ s ≠ u /\ SmR q
  | .wit s u => PostS s /\ PostS u /\ s ≠ u
  | .frm s q => PostS s /\ 0 <= q.num /\ SmR q
theorem fr_frV (q:Rat):frV (.int q.num) (.int q.den) = true:=by
  show (decide (1 <= (q.den:Int)) && decide (Int.gcd q.num q.den = 1)) = true
  have h1:1 <= (q.den:Int):=by have:=q.den_pos; omega
  have h2:Int.gcd q.num q.den = 1:=q.reduced
  rw [decide_eq_true h1,decide_eq_true h2]
  rfl
theorem FrQ.frq {K:PySem.W.Frag} {H:Hp} {v:V} {q:Rat} (h:FrQ H v q) (s:SmR q):Frq K H v true:=by
  obtain ⟨p,rfl,hp⟩:=h
  exact .inr (.inr ⟨p,_,_,rfl,hp,rfl,rfl,fun a b e1 e2 => by cases e1; cases e2; exact s,(fr_frV q).symm⟩)
inductive PairQ (K:PySem.W.Frag) (H:Hp):V -> V -> Bool -> Prop
  | one {x y:V} (h:PostQ K H x false):PairQ K H x y false
  | two {x y:V} (hx:PostQ K H x true) (hy:PostQ K H y false):PairQ K H x y false
  | both {s u:Str} (hx:PostQ K H (.str s) true) (hy:PostQ K H (.str u) true):PairQ K H (.str s) (.str u) (!decide (s = u))
theorem PairQ.sm {K:PySem.W.Frag} {H H':Hp} {x y:V} {b:Bool} (h:PairQ K H x y b) (s:Same H H'):PairQ K H' x y b:=by
  cases h with
  | one h => exact .one (h.sm s)
  | two hx hy => exact .two (hx.sm s) (hy.sm s)
  | both hx hy => exact .both (hx.sm s) (hy.sm s)
inductive MomQ (K:PySem.W.Frag) (H:Hp):V -> Bool -> Prop
  | no {x:V} (h:Frq K H x false):MomQ K H x false
  | fr {p:Addr} {a b:Int} (h:H p = some (.tup [.int a,.int b])) (hf:frV (.int a) (.int b) = true) (sa:Sm 8000 a) (sb:Sm 8000 b):MomQ K H (.ref p) (decide (0 <= a))
inductive IsWishQ (K:PySem.W.Frag) (H:Hp):V -> Bool -> Prop
  | nt {x:V} (h:NT K H x):IsWishQ K H x false
  | len {p:Addr} {xs:List V} (h:H p = some (.tup xs)) (n3:xs.length ≠ 3) (n4:xs.length ≠ 4):IsWishQ K H (.ref p) false
  | no3 {p:Addr} {u x t:V} (h:H p = some (.tup [u,x,t])) (hu:NS K H u):IsWishQ K H (.ref p) false
  | four {p:Addr} {k:Str} {x y t:V} (h:H p = some (.tup [.str k,x,y,t])) (h1:k ≠ "after") (h2:k ≠ "within"):IsWishQ K H (.ref p) false
  | nop {p:Addr} {k:Str} {x y t:V} (h:H p = some (.tup [.str k,x,y,t])) (h1:k = "after" ∨ k = "within") (hp:PairQ K H x y false):IsWishQ K H (.ref p) false
  | frac {p:Addr} {k:Str} {x y t:V} {b:Bool} (h:H p = some (.tup [.str k,x,y,t])) (h1:k = "after" ∨ k = "within") (hp:PairQ K H x y true) (ht:∀ H',Same H H' -> Frq K H' t b):IsWishQ K H (.ref p) b
  | frm0 {p:Addr} {x t:V} (h:H p = some (.tup [.str "from",x,t])) (hx:PostQ K H x false):IsWishQ K H (.ref p) false
  | frm {p:Addr} {x t:V} {b:Bool} (h:H p = some (.tup [.str "from",x,t])) (hx:PostQ K H x true) (ht:∀ H',Same H H' -> MomQ K H' t b):IsWishQ K H (.ref p) b
  | wit0 {p:Addr} {k:Str} {x y:V} (h:H p = some (.tup [.str k,x,y])) (h1:k ≠ "from") (h2:k ≠ "with"):IsWishQ K H (.ref p) false
  | wit {p:Addr} {x y:V} {b:Bool} (h:H p = some (.tup [.str "with",x,y])) (hp:PairQ K H x y b):IsWishQ K H (.ref p) b
theorem WishQ.is {K:PySem.W.Frag} {H:Hp} {v:V}:∀ {w:Wsh},WishQ H v w -> w.ok -> IsWishQ K H v true
  | .after s u q,⟨p,t,e,h,f⟩,⟨h1,h2,h3,h4⟩ => by
    subst e
    have:=PairQ.both (K:=K) (H:=H) h1.q h2.q
    rw [decide_eq_false h3] at this
    exact .frac h (.inl rfl) this fun H' s' => (f.tk s'.tk).frq h4
  | .within s u q,⟨p,t,e,h,f⟩,⟨h1,h2,h3,h4⟩ => by
    subst e
    have:=PairQ.both (K:=K) (H:=H) h1.q h2.q
    rw [decide_eq_false h3] at this
    exact .frac h (.inr rfl) this fun H' s' => (f.tk s'.tk).frq h4
  | .wit s u,⟨p,e,h⟩,⟨h1,h2,h3⟩ => by
    subst e
    have:=PairQ.both (K:=K) (H:=H) h1.q h2.q
    rw [decide_eq_false h3] at this
    exact .wit h this
  | .frm s q,⟨p,t,e,h,f⟩,⟨h1,h2,h3⟩ => by
    subst e
    refine .frm h h1.q fun H' s' => ?_
    obtain ⟨pt,rfl,hpt⟩:=f.tk s'.tk
    have:=MomQ.fr (K:=K) hpt (fr_frV q) h3.1 h3.2
    rw [decide_eq_true h2] at this
    exact this
noncomputable abbrev Stp:=Str×Str×Rat×Nat
noncomputable def StepQ (H:Hp) (v:V) (x:Stp):Prop:=∃ p t,v = .ref p /\ H p = some (.tup [.str x.1,.str x.2.1,t,.int x.2.2.2]) /\ FrQ H t x.2.2.1
theorem StepQ.tk {H H':Hp} {v:V} {x:Stp} (h:StepQ H v x) (k:TK H H'):StepQ H' v x:=let ⟨p,t,e,h,f⟩:=h; ⟨p,t,e,k _ _ h,f.tk k⟩
noncomputable def stepsBy (k:Nat):Wsh -> List Stp
  | .after s u q => [(s,u,q,k)]
  | .within s u q => [(u,s,-q,k)]
  | .wit s u => [(s,u,0,k),(u,s,0,k)]
  | .frm _ _ => []
noncomputable def stepsFrom:Nat -> List Wsh -> List Stp
  | _,[] => []
  | k,w :: r => stepsBy k w ++ stepsFrom (k + 1) r
noncomputable def stepsOf (ws:List Wsh):List Stp:=stepsFrom 0 ws
theorem stepsBy_len (k:Nat):∀ w:Wsh,(stepsBy k w).length <= 2
  | .after _ _ _ => by simp [stepsBy]
  | .within _ _ _ => by simp [stepsBy]
  | .wit _ _ => by simp [stepsBy]
  | .frm _ _ => by simp [stepsBy]
theorem stepsFrom_app:∀ (ws vs:List Wsh) (k:Nat),stepsFrom k (ws ++ vs) = stepsFrom k ws ++ stepsFrom (k + ws.length) vs
  | [],vs,k => by simp [stepsFrom]
  | w :: r,vs,k => by
    show stepsBy k w ++ stepsFrom (k + 1) (r ++ vs) = (stepsBy k w ++ stepsFrom (k + 1) r) ++ _
    rw [stepsFrom_app r vs (k + 1),List.append_assoc,List.length_cons,show k + 1 + r.length = k + (r.length + 1) by omega]
theorem steps_take {ws:List Wsh} {i:Nat} {w:Wsh} (h:ws[i]? = some w):stepsOf (ws.take (i + 1)) = stepsOf (ws.take i) ++ stepsBy i w:=by
  have hi:i < ws.length:=(List.getElem?_eq_some_iff.mp h).1
  have e:ws[i] = w:=(List.getElem?_eq_some_iff.mp h).2
  unfold stepsOf
  rw [List.take_succ_eq_append_getElem hi,stepsFrom_app,e]
  have:(List.take i ws).length = i:=by rw [List.length_take]; omega
  rw [this,Nat.zero_add]
  show _ ++ (stepsBy i w ++ []) = _
  rw [List.append_nil]
theorem stepsFrom_len:∀ (ws:List Wsh) (k:Nat),(stepsFrom k ws).length <= 2 * ws.length
  | [],_ => Nat.le_refl _
  | w :: r,k => by
    have h1:=stepsBy_len k w
    have h2:=stepsFrom_len r (k + 1)
    show (stepsBy k w ++ stepsFrom (k + 1) r).length <= _
    rw [List.length_append,List.length_cons]
    omega
theorem steps_len (ws:List Wsh):(stepsOf ws).length <= 2 * ws.length:=stepsFrom_len ws 0
noncomputable def dWish:Wsh -> Dt
  | .after s u q => .tup [.str "after",.str s,.str u,dFr q]
  | .within s u q => .tup [.str "within",.str s,.str u,dFr q]
  | .wit s u => .tup [.str "with",.str s,.str u]
  | .frm s q => .tup [.str "from",.str s,dFr q]
noncomputable def dStep (x:Stp):Dt:=.tup [.str x.1,.str x.2.1,dFr x.2.2.1,.int x.2.2.2]
theorem FrQ.den {H:Hp} {v:V} {q:Rat} (h:FrQ H v q):Den H (dFr q) v:=by
  obtain ⟨p,rfl,h⟩:=h
  exact den2 h
theorem WishQ.den {H:Hp} {v:V}:∀ {w:Wsh},WishQ H v w -> Den H (dWish w) v
  | .after s u q,⟨p,t,e,h,f⟩ => ⟨p,_,e,h,_,_,rfl,rfl,_,_,rfl,rfl,_,_,rfl,rfl,_,_,rfl,f.den,rfl⟩
  | .within s u q,⟨p,t,e,h,f⟩ => ⟨p,_,e,h,_,_,rfl,rfl,_,_,rfl,rfl,_,_,rfl,rfl,_,_,rfl,f.den,rfl⟩
  | .wit s u,⟨p,e,h⟩ => ⟨p,_,e,h,_,_,rfl,rfl,_,_,rfl,rfl,_,_,rfl,rfl,rfl⟩
  | .frm s q,⟨p,t,e,h,f⟩ => ⟨p,_,e,h,_,_,rfl,rfl,_,_,rfl,rfl,_,_,rfl,f.den,rfl⟩
theorem StepQ.den {H:Hp} {v:V} {x:Stp} (h:StepQ H v x):Den H (dStep x) v :=
  let ⟨p,t,e,h,f⟩:=h; ⟨p,_,e,h,_,_,rfl,rfl,_,_,rfl,rfl,_,_,rfl,f.den,_,_,rfl,rfl,rfl⟩
theorem den_of {β:Type} {R:Hp -> V -> β -> Prop} {H:Hp} {f:β -> Dt} (hR:∀ v b,R H v b -> Den H (f b) v):∀ {ds:List β} {vs:List V},Paired (R H) vs ds -> DenL H (ds.map f) vs
  | [],_,.nil => rfl
  | d :: ds,_,.cons h t => ⟨_,_,rfl,hR _ _ h,den_of hR t⟩
theorem dep_step (x:Stp):dep (dStep x) <= 5:=by simp [dep,depL,dStep,dFr]
theorem dep_wish:∀ w:Wsh,dep (dWish w) <= 5
  | .after _ _ _ => by simp [dep,depL,dWish,dFr]
  | .within _ _ _ => by simp [dep,depL,dWish,dFr]
  | .wit _ _ => by simp [dep,depL,dWish]
  | .frm _ _ => by simp [dep,depL,dWish,dFr]
theorem depL_of {β:Type} {f:β -> Dt} (h:∀ b,dep (f b) <= 5):∀ ds:List β,depL (ds.map f) <= 50
  | [] => by simp [depL]
  | d :: ds => by
    have h1:=h d
    have h2:=depL_of h ds
    rw [List.map_cons]
    simp only [depL]
    omega
section
variable {H:Hp} {Q:VK} {l1 l2:Addr}
theorem e_like {β:Type} {R:Hp -> V -> β -> Prop} {f:β -> Dt} {ds:List β} (hR:∀ v b,R H v b -> Den H (f b) v) (hd:∀ b,dep (f b) <= 5) (h1:LQ R H l1 ds) (h2:LQ R H l2 ds) (k:Q (.bl true) H):rEqA (.ref l1) (.ref l2) H Q:=by
  obtain ⟨v1,a1,p1⟩:=h1
  obtain ⟨v2,a2,p2⟩:=h2
  refine e_lst (ds:=ds.map f) (es:=ds.map f) ⟨l1,_,rfl,a1,den_of hR p1⟩ ⟨l2,_,rfl,a2,den_of hR p2⟩ (depL_of hd ds) ?_
  rw [DenL.same_eq _ _ (den_of hR p1) (den_of hR p1)]
  exact k
end
theorem fr_neg {H:Hp} {p:Addr} {q:Rat} (h:H p = some (.tup [.int (-q.num),.int q.den])):FrQ H (.ref p) (-q):=⟨p,rfl,by rw [h]; rfl⟩
theorem fr_zero {H:Hp} {p:Addr} (h:H p = some (.tup [.int 0,.int 1])):FrQ H (.ref p) 0:=⟨p,rfl,by rw [h]; rfl⟩
theorem pd_app {β:Type} {R:V -> β -> Prop}:∀ {xs ys:List V} {ds es:List β},Paired R xs ds -> Paired R ys es -> Paired R (xs ++ ys) (ds ++ es)
  | [],_,[],_,.nil,s => s
  | _ :: _,_,_ :: _,_,.cons r t,s => .cons r (pd_app t s)
theorem r_pow30 {H:Hp} {Q:VK} (k:Q (.int 1000000000000000000000000000000) H):rI CPow (fun i j => .int (i ^ j.toNat)) (.int 10) (.int 30) H Q:=r_I ⟨by decide,by decide,by decide⟩ k
theorem fdiv_nat (x:Nat):((x:Int).fdiv 26) = ((x / 26:Nat):Int):=by
  rw [Int.fdiv_eq_ediv_of_nonneg _ (by decide)]
  omega
noncomputable def Wsh.inU (U:List Str):Wsh -> Prop
  | .after s u _ => s ∈ U /\ u ∈ U
  | .within s u _ => s ∈ U /\ u ∈ U
  | .wit s u => s ∈ U /\ u ∈ U
  | .frm s _ => s ∈ U
noncomputable def bdR (q:Rat):Prop:=∃ t b:Int,0 < b /\ b <= 10 ^ 30 /\ -(10 ^ 30) <= t /\ t <= 10 ^ 30 /\ q = Rat.divInt t b
noncomputable def Wsh.bdW:Wsh -> Prop
  | .after _ _ q => bdR q
  | .within _ _ q => bdR q
  | .wit _ _ => True
  | .frm _ q => bdR q
theorem smr_low {t b:Int} (hb:0 < b) (hb2:b <= 10 ^ 30) (h1:-(10 ^ 30) <= t) (h2:t <= 10 ^ 30):SmR (Rat.divInt t b):=by
  have hb':b ≠ 0:=by omega
  have e:=low_rat (t:=t) hb'
  have l1:=lowT_le (t:=t) hb'
  have l2:=lowB_le (t:=t) hb'
  unfold SmR
  rw [e.1,e.2]
  exact ⟨Sm.le l1 ((Sm.of (n:=102) (by omega) (by omega)).mono (by decide)),Sm.le l2 ((Sm.of (n:=102) (by omega) (by omega)).mono (by decide))⟩
theorem low_nn {t b:Int} (ht:0 <= t) (hb:0 < b):0 <= (Rat.divInt t b).num:=by
  rw [(low_rat (t:=t) (show b ≠ 0 by omega)).1]
  rcases Int.lt_or_eq_of_le ht with h | h
  . exact Int.le_of_lt (lowT_pos h hb)
  . have:=lowT_le (t:=t) (show b ≠ 0 by omega)
    omega
theorem low_abs {t b:Int} (hb:0 < b):(if lowT t b < 0 then -lowT t b else lowT t b) = lowT (if t < 0 then -t else t) b /\ lowB t b = lowB (if t < 0 then -t else t) b:=by
  have hb':b ≠ 0:=by omega
  have e:=low_cross (t:=t) hb'
  have p:=lowB_pos (t:=t) hb'
  have c:=low_cop (t:=t) hb'
  refine low_of hb' p ?_ ?_
  . split
    . rw [Int.neg_gcd]; exact c
    . exact c
  . by_cases ht:t < 0
    . have:lowT t b < 0:=by
        refine Int.lt_of_not_ge fun h => ?_
        have h1:0 <= b * lowT t b:=Int.mul_nonneg (by omega) h
        have h2:t * lowB t b < 0:=Int.mul_neg_of_neg_of_pos ht p
        omega
      rw [if_pos ht,if_pos this,Int.neg_mul,Int.neg_mul,e,Int.mul_comm]
    . have:¬ lowT t b < 0:=fun h => by
        have h1:b * lowT t b < 0:=Int.mul_neg_of_pos_of_neg hb h
        have h2:0 <= t * lowB t b:=Int.mul_nonneg (by omega) (by omega)
        omega
      rw [if_neg ht,if_neg this,e,Int.mul_comm]
theorem nd_at {U:List Str} (h:U.Nodup) {a c:Nat} (ha:a < U.length) (hc:c < U.length) (e:U[a] = U[c]):a = c:=by
  rcases Nat.lt_trichotomy a c with l | l | l
  . exact absurd e (List.pairwise_iff_getElem.mp h a c ha hc l)
  . exact l
  . exact absurd e.symm (List.pairwise_iff_getElem.mp h c a hc ha l)
theorem pst_two {a b:Nat} (h1:97 <= a /\ a < 123) (h2:97 <= b /\ b < 123) (r:List Nat) (k n:Nat):pst (a :: b :: r) k n = pst r k (n + 2):=by
  show (if a = 46 then _ else _) = _
  rw [if_neg (by omega),decide_eq_true h1.1,decide_eq_true h1.2]
  show (true && (if b = 46 then _ else _)) = _
  rw [Bool.true_and,if_neg (by omega),decide_eq_true h2.1,decide_eq_true h2.2]
  rfl
noncomputable def bef (i:Nat):Str:=([("":Str),"ab","abc.d","x.y.z"][i]?).getD ""
noncomputable def beh (i:Nat):Str:=([("":Str),"q",".r","qqqq"][i]?).getD ""
noncomputable def nmB (i j:Nat) (a b:Nat):Str:=bef i ++ ⟨#[97 + a]⟩ ++ ⟨#[97 + b]⟩ ++ beh j
theorem nmB_cps (i j a b:Nat):(nmB i j a b).cps.toList = (bef i).cps.toList ++ (97 + a) :: (97 + b) :: (beh j).cps.toList:=by
  unfold nmB
  rw [cps_app,cps_app,cps_app]
  simp
theorem bef_cps:∀ i,i < 4 -> (bef i).cps.toList = ([[],[97,98],[97,98,99,46,100],[120,46,121,46,122]][i]?).getD []:=by decide +kernel
theorem beh_cps:∀ i,i < 4 -> (beh i).cps.toList = ([[],[113],[46,114],[113,113,113,113]][i]?).getD []:=by decide +kernel
theorem beh_ok:∀ j,j < 4 -> ∀ k,k < 4 -> 1 <= k -> ∀ n,n < 4 -> 1 <= n -> pst (beh j).cps.toList k (n + 1) = true:=by
  intro j hj k hk hk1 n hn hn1
  rw [beh_cps j hj]
  have h1:j = 0 ∨ j = 1 ∨ j = 2 ∨ j = 3:=by omega
  have h2:k = 1 ∨ k = 2 ∨ k = 3:=by omega
  have h3:n = 1 ∨ n = 2 ∨ n = 3:=by omega
  rcases h1 with rfl | rfl | rfl | rfl <;> rcases h2 with rfl | rfl | rfl <;> rcases h3 with rfl | rfl | rfl <;> decide
theorem nmB_post {i j a b:Nat} (hi:i < 4) (hj:j < 4) (ha:a < 26) (hb:b < 26):PostS (nmB i j a b):=by
  have hl:(nmB i j a b).cps.toList.length <= 100:=by
    rw [nmB_cps,bef_cps i hi,beh_cps j hj,List.length_append,List.length_cons,List.length_cons]
    have h1:i = 0 ∨ i = 1 ∨ i = 2 ∨ i = 3:=by omega
    have h2:j = 0 ∨ j = 1 ∨ j = 2 ∨ j = 3:=by omega
    rcases h1 with rfl | rfl | rfl | rfl <;> rcases h2 with rfl | rfl | rfl | rfl <;> decide
  refine ⟨?_,by rw [len_cps]; exact hl⟩
  unfold postB
  rw [nmB_cps,bef_cps i hi]
  have h1:i = 0 ∨ i = 1 ∨ i = 2 ∨ i = 3:=by omega
  have e:=fun k n => pst_two (a:=97 + a) (b:=97 + b) (by omega) (by omega) (beh j).cps.toList k n
  rcases h1 with rfl | rfl | rfl | rfl
  . show pst ((97 + a) :: (97 + b) :: _) 1 0 = true
    rw [e]
    exact beh_ok j hj 1 (by decide) (by decide) 1 (by decide) (by decide)
  . show pst ((97 + a) :: (97 + b) :: _) 1 2 = true
    rw [e]
    exact beh_ok j hj 1 (by decide) (by decide) 3 (by decide) (by decide)
  . show pst ((97 + a) :: (97 + b) :: _) 2 1 = true
    rw [e]
    exact beh_ok j hj 2 (by decide) (by decide) 2 (by decide) (by decide)
  . show pst ((97 + a) :: (97 + b) :: _) 3 1 = true
    rw [e]
    exact beh_ok j hj 3 (by decide) (by decide) 2 (by decide) (by decide)
theorem nmB_inj {i j a b c d:Nat} (h:nmB i j a b = nmB i j c d):a = c /\ b = d:=by
  have h1:=congrArg (fun z:Str => z.cps.toList) h
  rw [nmB_cps,nmB_cps] at h1
  have h2:=List.append_cancel_left h1
  injection h2 with h3 h4
  injection h4 with h5 h6
  omega
noncomputable def nmsB (i j o e:Nat) (n:Nat):List Str:=(List.range n).map fun k => nmB i j ((o + k / 26) % 26) ((e + k) % 26)
theorem nmsB_len (i j o e n:Nat):(nmsB i j o e n).length = n:=by unfold nmsB; rw [List.length_map,List.length_range]
theorem nmsB_nd {i j o e n:Nat} (hn:n <= 600):(nmsB i j o e n).Nodup:=by
  unfold nmsB
  refine List.pairwise_map.mpr ?_
  refine List.Pairwise.imp_of_mem ?_ List.nodup_range
  intro a b ha hb hne h
  have ha:=List.mem_range.mp ha
  have hb:=List.mem_range.mp hb
  obtain ⟨h1,h2⟩:=nmB_inj h
  exact hne (by omega)
theorem nmsB_post {i j o e n:Nat} (hi:i < 4) (hj:j < 4):∀ s ∈ nmsB i j o e n,PostS s:=by
  intro s hs
  unfold nmsB at hs
  obtain ⟨k,_,rfl⟩:=List.mem_map.mp hs
  exact nmB_post hi hj (Nat.mod_lt _ (by decide)) (Nat.mod_lt _ (by decide))
theorem nmsB_snoc (i j o e n:Nat):nmsB i j o e (n + 1) = nmsB i j o e n ++ [nmB i j ((o + n / 26) % 26) ((e + n) % 26)]:=by
  unfold nmsB
  rw [List.range_succ,List.map_append]
  rfl
theorem r_inT {K:PySem.W.Frag} {H:Hp} {Q:VK} {p:Addr} {ys:List Str} {s:Str} (h:H p = some (.tup (ys.map V.str))) (k:Q (.bl (decide (s ∈ ys))) H):rIn K false (.str s) (.ref p) H Q:=⟨p,_,rfl,.inr (SqT.of h),rfl,flat_strs _,by rw [inV_strs]; exact k⟩
theorem r_nin34 {K:PySem.W.Frag} {H:Hp} {Q:VK} {p:Addr} {n:Int} {b:Bool} (h:H p = some (.tup [.int 3,.int 4])) (e:(!(decide (n = 3) || decide (n = 4))) = b) (k:Q (.bl b) H):rIn K true (.int n) (.ref p) H Q:=by
  refine ⟨p,_,rfl,.inr (SqT.of h),rfl,rfl,?_⟩
  have:inV (.int n) [.int 3,.int 4] = (decide (n = 3) || decide (n = 4)):=by
    show ((3 == n) || ((4 == n) || false)) = _
    rw [Bool.or_false,Bool.eq_iff_iff]
    simp only [Bool.or_eq_true,beq_iff_eq,decide_eq_true_iff]
    omega
  show Q (.bl (!inV (.int n) [.int 3,.int 4])) H
  rw [this,e]
  exact k
theorem nn_a {a b c:Int} (h1:0 <= a) (h2:0 <= b) (h3:0 <= c):0 <= (a * 2147483587 + b) * 2147483543 + c:=Int.add_nonneg (Int.mul_nonneg (Int.add_nonneg (Int.mul_nonneg h1 (by decide)) h2) (by decide)) h3
theorem nn_b {a c:Int} (h:0 <= a):0 <= a * 1000000000000000000 + c % 1000000000000000000:=Int.add_nonneg (Int.mul_nonneg h (by decide)) (Int.emod_nonneg c (by decide))
end L2
namespace L2
open PySem PySem.Spec PyProof.Rows
section
variable {X:Cx} {k n:Nat} {x:Str} {ps ks:List Str} {dvs:List V} {sp:Sp} {p pos:Pos} {e:Expr} {es:List Expr} {kws:List Keyword} {t tk:TA}
end
theorem r_cut {s:TS} {D:Ends} {σ:St} {H:Hp} (J:St -> Hp -> Prop) (hJ:∀ σ H,J σ H -> D.nx σ H) (k:∀ NX:St -> Hp -> Prop,(∀ σ H,J σ H -> NX σ H) -> s ⟨NX,D.rt,D.bk,D.ct⟩ σ H):s D σ H:=k D.nx hJ
section
variable {σ:St} {H:Hp} {Q:VK} {K:PySem.W.Frag}
end
noncomputable def n3:List TRun:=[(sA,sB,Rat.divInt 1 2),(sB,sC,Rat.divInt 1 1)]
noncomputable def ts3:List (Key×Rat):=[(Sum.inl 0,Rat.divInt 1 2),(Sum.inl 1,Rat.divInt 1 1)]
noncomputable def tk3:Nat -> Option Rat:=fun k => aget (lst ts3) (Sum.inl (k:Int))
end L2
namespace L2
open PySem PySem.Spec PyProof.Rows
section
variable {X:Cx}
end
section
variable {H:Hp} {Q:VK} {u v:V} {a b:Option Rat}
end
section
variable {net:List (RunD Key)} {a b:Key} {m:Rat} {tk:Nat -> Option Rat} {f:Key -> Option Rat}
end
end L2
namespace L2
open PySem PySem.Spec PyProof.Rows
section
variable {te:TE} {Q:VK} {H:Hp} {caps:St} {K:PySem.W.Frag}
end
section
variable {X:Cx} {tg:Expr}
end
section
variable {σ:St} {H:Hp} {D:Ends} {K:PySem.W.Frag}
end
section
variable {X:Cx}
noncomputable def rInsert:V -> List V -> Hp -> VK -> Prop:=fun x vs H Q => ∃ (l:Addr) (xs:List V) (i:Nat) (y:V),x = .ref l /\ vs = [.int i,y] /\ H l = some (.lst xs) /\ i <= xs.length /\ xs.length < 1000 /\ Q .non (upd H l (.lst (xs.take i ++ y :: xs.drop i)))
theorem mt_insert:MtM X "list.insert" rInsert:=by
  intro pins s σ H x vs v us Q I rx rv h
  obtain ⟨l,xs,i,y,rfl,rfl,hH,hi,hz,q⟩:=h
  cases rx
  obtain ⟨u,w',rfl,⟨t,rfl⟩,ry⟩:=vals2 rv
  obtain ⟨z,its,n,r,hl,e⟩:=I.lstM hH
  have hfit:¬ (!Builtin.List.listFitsIndex (i:Int)) = true:=by rw [fitsIndex_both (k:=(i:Int)) (by omega) (by omega)]; simp
  have hsz:its.toArray.size <= sizeLine:=by rw [List.size_toArray]; omega
  refine call_meets F.slot_list_insert ⟨_,e,rfl⟩ F.entry_list_insert (F.args_list_insert_3 (.ref l) (.int (i:Int) t) w') (@PySem.AutoSeq1.list_insert_list_int_val_1 l its.toArray n (i:Int) t w' hfit hsz) ⟨e,?_⟩
  refine ⟨.non,_,I.lset (its':=its.take i ++ w' :: its.drop i) hH e ?_ ((r.take i).append (.cons ry (r.drop i))) ?_,rfl,q⟩
  . have e1:¬ ((i:Int) < 0):=by omega
    have e2:min ((i:Int).toNat) its.toArray.size = i:=by rw [List.size_toArray]; omega
    show ((its.toArray.extract 0 (if (i:Int) < 0 then ((i:Int) + ((its.toArray.size:Nat):Int)).toNat else min ((i:Int).toNat) its.toArray.size)).push w' ++ its.toArray.extract (if (i:Int) < 0 then ((i:Int) + ((its.toArray.size:Nat):Int)).toNat else min ((i:Int).toNat) its.toArray.size)) = _
    rw [if_neg e1,e2]
    simp
    exact List.take_of_length_le (by rw [List.length_drop]; omega)
  . simp
    have:=sizeLine_eq
    omega
end
section
variable {H:Hp} {Q:VK}
theorem r_insert {l:Addr} {xs:List V} {i:Nat} {y:V} (h:H l = some (.lst xs)) (hi:i <= xs.length) (hz:xs.length < 1000) (q:Q .non (upd H l (.lst (xs.take i ++ y :: xs.drop i)))):rInsert (.ref l) [.int i,y] H Q:=⟨l,xs,i,y,rfl,rfl,h,hi,hz,q⟩
end
end L2
namespace L2
open PySem PySem.Spec PyProof.Rows
theorem dig_len:∀ i,i < 1000 -> (Str.ofString (toString ((i:Nat):Int))).length <= 10:=by decide +kernel
section
variable {X:Cx}
noncomputable def tFmtI (te:TE):TE:=fun σ H Q => te σ H fun x H1 => ∃ i:Nat,x = .int i /\ i < 1000 /\ ∀ z:Str,z.length <= 10 -> Q (.str z) H1
theorem log_small {i:Nat} (h:i < 1000):((i:Nat):Int).natAbs.log2 < 1920:=by
  rw [Int.natAbs_natCast]
  by_cases e:i = 0
  . subst e; decide
  . have h1:i.log2 < 10:=(Nat.log2_lt e).mpr (by omega)
    omega
theorem pe_fmt {e:Expr} {te:TE} {pos:Pos} (he:PE X e te):PE X (.FormattedValue e (-1) none pos) (tFmtI te):=by
  intro pins s σ H Q I h
  refine wpAny_FormattedValue_plain (thn (he pins s σ H _ I h) fun v s1 ⟨x,H1,I1,r1,i,e1,hi,q⟩ => ?_)
  subst e1
  obtain ⟨t,rfl⟩:=r1
  exact wpAny_formatField_int (log_small hi) ⟨.str _,H1,I1.tok _,⟨_,rfl⟩,q _ (dig_len i hi)⟩
noncomputable def tJn:List TE -> TE
  | [],_,H,Q => ∀ z:Str,Q (.str z) H
  | t :: r,σ,H,Q => t σ H fun x H1 => ∃ y:Str,x = .str y /\ y.length <= 200000 /\ tJn r σ H1 Q
inductive PJs (X:Cx):List Expr -> List TE -> Prop
  | nil:PJs X [] []
  | cons {v:Expr} {vs:List Expr} {t:TE} {ts:List TE} (h:PE X v t) (r:PJs X vs ts):PJs X (v :: vs) (t :: ts)
theorem pj_nil:PJs X [] []:=.nil
theorem pj_cons {v:Expr} {vs:List Expr} {t:TE} {ts:List TE} (h:PE X v t) (r:PJs X vs ts):PJs X (v :: vs) (t :: ts):=.cons h r
theorem joins_of {pins:List (Addr×Obj)} {σ:St} {Q:VK}:∀ {vs:List Expr} {ts:List TE} (_:PJs X vs ts) (n:Nat) (acc:Str) (s:Shared) (H:Hp),acc.length <= 200000 * n -> ts.length + n <= 60 -> Inv X pins σ H s -> tJn ts σ H Q ->
    Joins (model X.prog X.w) X.A X.xe (evalEach vs X.env) acc (fun out s₁ => out.length <= sizeLine /\ EP X pins σ Q (.str out s₁.toks) { s₁ with toks:=s₁.toks + 1 }) s
  | _,_,.nil,n,acc,s,H,ha,hn,I,h => ⟨by rw [sizeLine_eq]; omega,.str acc,H,I.tok _,⟨_,rfl⟩,h acc⟩
  | v :: vs,t :: ts,.cons hp r,n,acc,s,H,ha,hn,I,h => by
    show wpAny _ _ (eval v X.env) _ _ s
    rw [List.length_cons] at hn
    refine thn (hp pins s σ H _ I h) fun u s1 ⟨x,H1,I1,r1,y,e1,hy,q⟩ => ?_
    subst e1
    obtain ⟨tk,rfl⟩:=r1
    have hl:=len_plus acc y
    refine ⟨y,tk,rfl,by rw [hl,sizeLine_eq]; omega,joins_of r (n + 1) (acc ++ y) s1 H1 (by omega) (by omega) I1 q⟩
theorem pe_fst {v1 v2:Expr} {rest:List Expr} {ts:List TE} {pos:Pos} (h:PJs X (v1 :: v2 :: rest) ts) (hn:ts.length <= 50):PE X (.JoinedStr (v1 :: v2 :: rest) pos) (tJn ts):=by
  intro pins s σ H Q I hq
  exact wpAny_JoinedStr (joins_of h 0 Str.empty s H (Nat.le_refl _) (by omega) I hq)
theorem r_jn0 {σ:St} {H:Hp} {Q:VK} (k:∀ z:Str,Q (.str z) H):tJn [] σ H Q:=k
noncomputable def jnK (r:List TE) (σ:St) (Q:VK):VK:=fun x H1 => ∃ y:Str,x = .str y /\ y.length <= 200000 /\ tJn r σ H1 Q
theorem r_jn {t:TE} {r:List TE} {σ:St} {H:Hp} {Q:VK} (k:t σ H (jnK r σ Q)):tJn (t :: r) σ H Q:=k
theorem r_jnK {r:List TE} {σ:St} {H:Hp} {Q:VK} {y:Str} (hy:y.length <= 200000) (k:tJn r σ H Q):jnK r σ Q (.str y) H:=⟨y,rfl,hy,k⟩
noncomputable def fmK (Q:VK):VK:=fun x H1 => ∃ i:Nat,x = .int i /\ i < 1000 /\ ∀ z:Str,z.length <= 10 -> Q (.str z) H1
theorem r_fmt {te:TE} {σ:St} {H:Hp} {Q:VK} (k:te σ H (fmK Q)):tFmtI te σ H Q:=k
theorem r_fmK {i:Nat} {H:Hp} {Q:VK} (hi:i < 1000) (k:∀ z:Str,z.length <= 10 -> Q (.str z) H):fmK Q (.int i) H:=⟨i,rfl,hi,k⟩
end
theorem NT.sm {K:PySem.W.Frag} {H H':Hp} {x:V} (h:NT K H x) (s:Same H H'):NT K H' x:=let ⟨t,ty,e⟩:=h; ⟨t,TyOf.sm ty s,e⟩
noncomputable def NL (K:PySem.W.Frag) (H:Hp) (x:V):Prop:=∃ t,TyOf K H x t /\ PySem.W.kitOne K t (.type "list") = some false
section
variable {σ:St} {H:Hp} {D:Ends} {K:PySem.W.Frag}
end
end L2
namespace Lw
open PySem L2
set_option compiler.extract_closed false
set_option hygiene false
local macro_rules | `(tactic| walk_at "st") => `(tactic| first
  | with_reducible assumption
  | ((with_reducible refine St3.new ?_ ?hn); (case hn => with_reducible assumption); walk_at "st"))
local macro_rules | `(tactic| walk_at "kp") => `(tactic| first
  | with_reducible assumption
  | with_reducible exact Kp.refl _ _
  | ((with_reducible refine Kp.trans ?_ (Kp.new ?hn)); (case hn => with_reducible assumption); walk_at "kp"))
local macro_rules | `(tactic| walk_at "sm") => `(tactic| first
  | with_reducible assumption
  | with_reducible exact Same.refl _
  | ((with_reducible refine Same.trans ?_ (Same.new ?hn)); (case hn => with_reducible assumption); walk_at "sm"))
local macro_rules | `(tactic| walk_at "hp") => `(tactic| first
  | with_reducible assumption
  | with_reducible exact upd_same
  | ((with_reducible refine upd_old ?hn ?_); (case hn => with_reducible assumption); walk_at "hp")
  | ((with_reducible refine upd_not ?hn ?_); (case hn => first | with_reducible assumption | (refine Ne.symm ?_; with_reducible assumption)); walk_at "hp")
  | ((with_reducible refine Same.app ?hn ?_); (case hn => with_reducible assumption); walk_at "hp")
  | ((with_reducible refine Kp.app ?hk ?hn ?_); (case hk => with_reducible assumption); (case hn => first | with_reducible assumption | (refine Ne.symm ?_; with_reducible assumption)); walk_at "hp"))
local macro_rules | `(tactic| walk_at "tk") => `(tactic| first
  | with_reducible exact TK.refl _
  | with_reducible assumption
  | ((with_reducible refine TK.trans ?_ (TK.new ?hn)); (case hn => with_reducible assumption); walk_at "tk")
  | ((with_reducible refine TK.trans ?_ (TK.lst ?hn)); (case hn => walk_at "hp"); walk_at "tk")
  | ((with_reducible refine TK.trans ?_ (TK.dic ?hn)); (case hn => walk_at "hp"); walk_at "tk")
  | ((with_reducible refine TK.trans ?_ (TK.frz ?hn)); (case hn => walk_at "hp"); walk_at "tk")
  | ((with_reducible refine TK.trans ?_ TK.melt); walk_at "tk")
  | ((with_reducible refine TK.trans ?_ (Same.tk ?hn)); (case hn => with_reducible assumption); walk_at "tk")
  | ((with_reducible refine TK.trans ?_ (St3.tk ?hs ?hn)); (case hn => with_reducible assumption); (case hs => with_reducible assumption); walk_at "tk"))
local macro_rules | `(tactic| walk_at "fq") => `(tactic| first
  | with_reducible assumption
  | ((with_reducible refine FrQ.tk ?fa ?ft); (case fa => with_reducible assumption); (case ft => walk_at "tk")))
local macro_rules | `(tactic| walk_at "go1") => `(tactic| first
  | with_reducible refine r_seq ?_
  | ((with_reducible refine r_nxD ?_); (with_reducible refine r_nx ?_))
  | ((with_reducible refine r_rtD ?_); (with_reducible refine r_rt ?_))
  | ((with_reducible refine r_bkD ?_); (with_reducible refine r_bk ?_))
  | ((with_reducible refine r_ctD ?_); (with_reducible refine r_ct ?_))
  | with_reducible refine r_asg ?_
  | with_reducible refine r_gname ?_
  | ((with_reducible refine' r_var ?rv ?_); case rv => exact rfl)
  | with_reducible refine r_c ?_
  | with_reducible refine r_op ?_
  | with_reducible refine r_un ?_
  | with_reducible refine r_I0 ?_
  | with_reducible refine r_U ?_
  | with_reducible refine a_int ?_
  | with_reducible refine r_sl ?_
  | with_reducible refine r_part ?_
  | with_reducible refine r_partK ?_
  | with_reducible refine r_nopart ?_
  | ((with_reducible refine r_mod ?mc ?_); case mc => first | decide | omega)
  | ((with_reducible refine r_modN ?mc ?_); case mc => first | decide | omega)
  | ((with_reducible refine r_mul ?mc ?_); case mc => first | exact CMulB.r (by decide) (by decide) | exact CMulB.l (by decide) (by decide) | exact CMulB.l (by omega) (by omega) | exact CMulB.r (by omega) (by omega))
  | ((with_reducible refine r_fdiv ?mc ?_); case mc => first | exact CDivB.of (by decide) (by decide) | exact CDivB.of (by omega) (by omega))
  | with_reducible refine r_pow18 ?_
  | with_reducible refine r_pow9 ?_
  | with_reducible refine r_test ?_
  | with_reducible refine r_tB ?_
  | with_reducible refine r_bK ?_
  | with_reducible refine r_ifS ?_
  | with_reducible refine r_if ?_
  | with_reducible refine r_and ?_
  | with_reducible refine r_or ?_
  | with_reducible refine r_not ?_
  | with_reducible refine r_andV ?_
  | with_reducible refine r_orV ?_
  | with_reducible refine r_notV ?_
  | with_reducible refine r_andK ?_
  | with_reducible refine r_orK ?_
  | with_reducible refine r_notK ?_
  | with_reducible refine r_ret ?_
  | with_reducible refine r_retN ?_
  | with_reducible refine r_next ?_
  | with_reducible refine r_drop ?_
  | with_reducible refine r_nil ?_
  | with_reducible refine r_cons ?_
  | with_reducible refine r_tup ?_
  | with_reducible refine r_lst ?_
  | with_reducible refine r_call ?_
  | with_reducible refine r_callD ?_
  | with_reducible refine r_callK ?_
  | with_reducible refine r_lrng ?_
  | with_reducible refine r_iTup ?_
  | with_reducible refine r_rngD ?_
  | with_reducible refine r_CB ?_
  | with_reducible refine r_dget ?_
  | with_reducible refine r_din ?_
  | with_reducible refine r_dnin ?_
  | with_reducible refine r_dput ?_
  | with_reducible refine r_dget1 ?_
  | with_reducible refine r_dget2 ?_
  | with_reducible refine r_dpop1 ?_
  | with_reducible refine r_bm ?_
  | with_reducible refine r_bm0 ?_
  | with_reducible refine r_bmS ?_
  | with_reducible refine r_gcons ?_
  | with_reducible refine r_gnil ?_
  | with_reducible refine r_iEnum ?_
  | with_reducible refine r_tru ?_
  | with_reducible refine r_orT ?_
  | with_reducible refine r_cont ?_
  | with_reducible refine r_break ?_
  | with_reducible refine r_isNr ?_
  | with_reducible refine r_isNn ?_
  | with_reducible refine r_isNs ?_
  | with_reducible refine r_isNi ?_
  | with_reducible refine r_isNk ?_
  | with_reducible refine r_noNr ?_
  | with_reducible refine r_noNn ?_
  | with_reducible refine r_noNs ?_
  | ((with_reducible refine' r_bmL ?ih ?_); (case ih => walk_at "hp"))
  | ((with_reducible refine' r_bmD ?ih ?_); (case ih => walk_at "hp"))
  | ((with_reducible refine' r_bm0D ?ih ?_); (case ih => walk_at "hp"))
  | ((with_reducible refine' r_gtup2 ?ih ?_); (case ih => walk_at "hp"))
  | ((with_reducible refine' r_gtup3 ?ih ?_); (case ih => walk_at "hp"))
  | ((with_reducible refine' r_gtup4 ?ih ?_); (case ih => walk_at "hp"))
  | with_reducible refine r_par ?_
  | with_reducible refine r_parK ?_
  | with_reducible refine e_int ?_
  | with_reducible refine n_int ?_
  | with_reducible refine e_bl ?_
  | with_reducible refine n_bl ?_
  | with_reducible refine e_str ?_
  | with_reducible refine n_str ?_
  | with_reducible refine r_isB ?_
  | with_reducible refine r_isNB ?_
  | with_reducible refine r_gsub ?_
  | with_reducible refine r_abs ?_
  | with_reducible refine r_max ?_
  | with_reducible refine r_min ?_
  | with_reducible refine r_intB ?_
  | with_reducible refine r_for ?_
  | with_reducible refine r_comp ?_
  | with_reducible refine r_rng1 ?_
  | with_reducible refine r_rng2 ?_
  | with_reducible refine r_iList ?_
  | ((with_reducible refine' r_lent ?ih ?_); (case ih => walk_at "hp"))
  | ((with_reducible refine' r_lenl ?ih ?_); (case ih => walk_at "hp"))
  | ((with_reducible refine' r_ixt ?ih ?ie ?_); (case ih => walk_at "hp"); (case ie => exact rfl))
  | ((with_reducible refine' r_ixl ?ih ?ie ?_); (case ih => walk_at "hp"); (case ie => exact rfl))
  | with_reducible refine r_dmN ?_
  | with_reducible refine r_dmR ?_
  | with_reducible refine i_sN ?_
  | with_reducible refine i_sS ?_
  | with_reducible refine i_T ?_
  | with_reducible refine i_F ?_
  | with_reducible refine i_flip ?_
  | ((with_reducible refine i_dT ?dc ?_); case dc => omega)
  | ((with_reducible refine i_dF ?dc ?_); case dc => omega))
local macro_rules | `(tactic| walk_at "go") => `(tactic| repeat (walk_at "go1"))
local macro_rules | `(tactic| walk_at "gos") => `(tactic| repeat ((fail_if_success (with_reducible refine r_seq ?_)); walk_at "go1"))
set_option hygiene true
local macro_rules | `(tactic| walk_at "go1") => `(tactic| first
  | with_reducible refine r_try ?_
  | with_reducible refine r_xdrop ?_
  | with_reducible refine r_xset ?_
  | with_reducible refine r_xret ?_
  | with_reducible refine r_callX ?_
  | with_reducible refine r_callXD ?_
  | with_reducible refine r_callH ?_
  | with_reducible refine r_raise ?_
  | with_reducible refine r_rng1H ?_)
theorem el_n {P:List Value -> Prop} (h:P []):∀ us:List Value,us.length = 0 -> P us:=fun us e => (List.length_eq_zero_iff.mp e).symm ▸ h
theorem el_s {n:Nat} {P:List Value -> Prop} (h:∀ a us,us.length = n -> P (a :: us)):∀ us:List Value,us.length = n + 1 -> P us:=fun us => List.casesOn (motive:=fun us => us.length = n + 1 -> P us) us (fun e => absurd e (Nat.succ_ne_zero n).symm) fun a us e => h a us (Nat.succ.inj e)
theorem el_1 {P:List Value -> Prop} (h:∀ a0,P [a0]):∀ us:List Value,us.length = 1 -> P us:=el_s fun a0 => el_n (h a0)
theorem el_2 {P:List Value -> Prop} (h:∀ a0 a1,P [a0,a1]):∀ us:List Value,us.length = 2 -> P us:=el_s fun a0 => el_s fun a1 => el_n (h a0 a1)
theorem el_3 {P:List Value -> Prop} (h:∀ a0 a1 a2,P [a0,a1,a2]):∀ us:List Value,us.length = 3 -> P us:=el_s fun a0 => el_s fun a1 => el_s fun a2 => el_n (h a0 a1 a2)
noncomputable def top (i:Nat):Stmt:=PySem.Challenge.pw_tilefall_k52_no_wishes.main.body.getD i (.Pass ⟨0,0,0,0⟩)
local macro_rules | `(tactic| walk_at "go1") => `(tactic| first
  | with_reducible refine r_chain ?_
  | with_reducible refine r_chnA ?_
  | with_reducible refine r_chnB ?_
  | with_reducible refine r_chnC ?_
  | with_reducible refine r_chnD ?_
  | with_reducible refine r_inTx ?_
  | with_reducible refine r_iSigns ?_)
local macro_rules | `(tactic| walk_at "go1") => `(tactic| first
  | with_reducible refine r_jn ?_
  | with_reducible refine r_fmt ?_
  | with_reducible refine r_jn0 ?_
  | ((with_reducible refine r_jnK ?jy ?_); case jy => first | omega | decide +kernel))
structure XmS (mg:Str -> Option Value) (xt x0 x1 x5 x6 x11:Addr):Prop where
  t:mg "TileError" = some (.ref xt)
  m_NoNumber:mg "NoNumber" = some (.ref x0)
  m_NoNet:mg "NoNet" = some (.ref x1)
  m_NoText:mg "NoText" = some (.ref x5)
  m_NoPost:mg "NoPost" = some (.ref x6)
  m_NoWish:mg "NoWish" = some (.ref x11)
  zV:mg "ValueError" = none
structure XrS (K:PySem.W.Frag) (xt x0 x1 x5 x6 x11 C:Addr) (i:Nat):Prop where
  x:XCls K C
  c:WkC K C xt
  b:WkT K xt
  v:PySem.W.kitOne K (.ref C) (.type "ValueError") = some true
  t:PySem.W.exmOne K (.ref C) (.ref xt) = some true
  k0:PySem.W.kitOne K (.ref C) (.ref x0) = some (Nat.beq 0 i)
  k1:PySem.W.kitOne K (.ref C) (.ref x1) = some (Nat.beq 1 i)
  k5:PySem.W.kitOne K (.ref C) (.ref x5) = some (Nat.beq 5 i)
  k6:PySem.W.kitOne K (.ref C) (.ref x6) = some (Nat.beq 6 i)
  k11:PySem.W.kitOne K (.ref C) (.ref x11) = some (Nat.beq 11 i)
noncomputable abbrev s_is_whole:Stmt:=top 8
theorem sc_is_whole:FnScope ["thing"] ["thing"] (defScope s_is_whole):=⟨rfl,rfl,rfl,by decide +kernel,rfl,by decide +kernel,by decide +kernel⟩
noncomputable abbrev s_common_divisor:Stmt:=top 9
theorem sc_common_divisor:FnScope ["one","other","rest"] ["one","other"] (defScope s_common_divisor):=⟨rfl,rfl,rfl,by decide +kernel,rfl,by decide +kernel,by decide +kernel⟩
noncomputable abbrev s_is_fraction:Stmt:=top 10
theorem sc_is_fraction:FnScope ["thing"] ["thing"] (defScope s_is_fraction):=⟨rfl,rfl,rfl,by decide +kernel,rfl,by decide +kernel,by decide +kernel⟩
noncomputable abbrev s_is_moment:Stmt:=top 13
theorem sc_is_moment:FnScope ["thing"] ["thing"] (defScope s_is_moment):=⟨rfl,rfl,rfl,by decide +kernel,rfl,by decide +kernel,by decide +kernel⟩
noncomputable abbrev s_is_part:Stmt:=top 18
theorem sc_is_part:FnScope ["text"] ["text"] (defScope s_is_part):=⟨rfl,rfl,rfl,by decide +kernel,rfl,by decide +kernel,by decide +kernel⟩
noncomputable abbrev s_is_post:Stmt:=top 19
theorem sc_is_post:FnScope ["thing","parts"] ["thing"] (defScope s_is_post):=⟨rfl,rfl,rfl,by decide +kernel,rfl,by decide +kernel,by decide +kernel⟩
noncomputable abbrev s_is_pair:Stmt:=top 21
theorem sc_is_pair:FnScope ["one","other"] ["one","other"] (defScope s_is_pair):=⟨rfl,rfl,rfl,by decide +kernel,rfl,by decide +kernel,by decide +kernel⟩
noncomputable abbrev s_is_wish:Stmt:=top 22
theorem sc_is_wish:FnScope ["thing"] ["thing"] (defScope s_is_wish):=⟨rfl,rfl,rfl,by decide +kernel,rfl,by decide +kernel,by decide +kernel⟩
noncomputable abbrev s_refuse_no_wishes:Stmt:=top 23
theorem sc_refuse_no_wishes:FnScope ["wishes","number","thing"] ["wishes"] (defScope s_refuse_no_wishes):=⟨rfl,rfl,rfl,by decide +kernel,rfl,by decide +kernel,by decide +kernel⟩
noncomputable abbrev s_steps_by:Stmt:=top 24
theorem sc_steps_by:FnScope ["number","wish"] ["number","wish"] (defScope s_steps_by):=⟨rfl,rfl,rfl,by decide +kernel,rfl,by decide +kernel,by decide +kernel⟩
noncomputable abbrev s_steps_of:Stmt:=top 25
theorem sc_steps_of:FnScope ["wishes","steps","number","wish"] ["wishes"] (defScope s_steps_of):=⟨rfl,rfl,rfl,by decide +kernel,rfl,by decide +kernel,by decide +kernel⟩
noncomputable abbrev s_played_at:Stmt:=top 29
theorem sc_played_at:FnScope ["wishes","steps","moments","causes","late","turns"] ["wishes"] (defScope s_played_at):=⟨rfl,rfl,rfl,by decide +kernel,rfl,by decide +kernel,by decide +kernel⟩
noncomputable abbrev s_cell_at:Stmt:=top 31
theorem sc_cell_at:FnScope ["_law_script","_law_k"] ["_law_script","_law_k"] (defScope s_cell_at):=⟨rfl,rfl,rfl,by decide +kernel,rfl,by decide +kernel,by decide +kernel⟩
noncomputable abbrev s_number:Stmt:=top 32
theorem sc_number:FnScope ["_law_script","_law_k","_law_cell","_law_one","_law_two","_law_three","_law_number_here"] ["_law_script","_law_k"] (defScope s_number):=⟨rfl,rfl,rfl,by decide +kernel,rfl,by decide +kernel,by decide +kernel⟩
noncomputable abbrev s_lowest:Stmt:=top 33
theorem sc_lowest:FnScope ["_law_top","_law_bottom","_law_one","_law_other"] ["_law_top","_law_bottom"] (defScope s_lowest):=⟨rfl,rfl,rfl,by decide +kernel,rfl,by decide +kernel,by decide +kernel⟩
noncomputable abbrev s_share:Stmt:=top 34
theorem sc_share:FnScope ["_law_number_here","_law_top","_law_bottom"] ["_law_number_here"] (defScope s_share):=⟨rfl,rfl,rfl,by decide +kernel,rfl,by decide +kernel,by decide +kernel⟩
noncomputable abbrev s_bells:Stmt:=top 35
theorem sc_bells:FnScope ["_law_script","_law_most","_law_letters","_law_number_here","_law_before","_law_behind","_law_one","_law_other","_law_found","_law_k","_law_name"] ["_law_script","_law_most"] (defScope s_bells):=⟨rfl,rfl,rfl,by decide +kernel,rfl,by decide +kernel,by decide +kernel⟩
noncomputable abbrev s_wish:Stmt:=top 36
theorem sc_wish:FnScope ["_law_number_here","_law_bells_here","_law_kind","_law_many","_law_one","_law_other","_law_x"] ["_law_number_here","_law_bells_here"] (defScope s_wish):=⟨rfl,rfl,rfl,by decide +kernel,rfl,by decide +kernel,by decide +kernel⟩
noncomputable abbrev s_odd:Stmt:=top 38
theorem sc_odd:FnScope ["_law_number_here","_law_bells_here","_law_a","_law_b","_law_some"] ["_law_number_here","_law_bells_here"] (defScope s_odd):=⟨rfl,rfl,rfl,by decide +kernel,rfl,by decide +kernel,by decide +kernel⟩
noncomputable abbrev s_at:Stmt:=top 39
theorem sc_at:FnScope ["_law_wishes","_law_way","_law_told","e"] ["_law_wishes","_law_way"] (defScope s_at):=⟨rfl,rfl,rfl,by decide +kernel,rfl,by decide +kernel,by decide +kernel⟩
noncomputable abbrev s_spoilt:Stmt:=top 40
theorem sc_spoilt:FnScope ["_law_wishes","_law_number_here","_law_bells_here","_law_at_here","_law_more"] ["_law_wishes","_law_number_here","_law_bells_here"] (defScope s_spoilt):=⟨rfl,rfl,rfl,by decide +kernel,rfl,by decide +kernel,by decide +kernel⟩
noncomputable abbrev s_law:Stmt:=top 41
theorem sc_law:FnScope ["_law_script","_law_bells_here","_law_wishes","_law_due","_law_k","_law_more","_law_at_here","_law_handed","_law_thing"] ["_law_script"] (defScope s_law):=⟨rfl,rfl,rfl,by decide +kernel,rfl,by decide +kernel,by decide +kernel⟩
noncomputable def spWhole (K:PySem.W.Frag):Sp:=fun vs H Q _ => ∃ (x:V) (t:Value) (b c:Bool),vs = [x] /\ TyOf K H x t /\ PySem.W.kitOne K t (.type "int") = some b /\ PySem.W.kitOne K t (.type "bool") = some c /\ Q (.bl (b && !c)) H
noncomputable def spGcd:Sp:=fun vs H Q _ => ∃ (a b:Int),vs = [.int a,.int b] /\ Q (.int (Int.gcd a b:Int)) H
noncomputable def spIsFrac (K:PySem.W.Frag):Sp:=fun vs H Q _ => ∃ (x:V) (r:Bool),vs = [x] /\ Frq K H x r /\ Q (.bl r) H
noncomputable def spMomQ (K:PySem.W.Frag):Sp:=fun vs H Q _ => ∃ (x:V) (b:Bool),vs = [x] /\ MomQ K H x b /\ Q (.bl b) H
noncomputable def spPart:Sp:=fun vs H Q _ => ∃ z:Str,vs = [.str z] /\ z.length <= 1000 /\ ∀ H',Same H H' -> Q (.bl (partB z)) H'
noncomputable def spPost (K:PySem.W.Frag):Sp:=fun vs H Q _ => ∃ (x:V) (b:Bool),vs = [x] /\ PostQ K H x b /\ ∀ H',Same H H' -> Q (.bl b) H'
noncomputable def spPairQ (K:PySem.W.Frag):Sp:=fun vs H Q _ => ∃ (x y:V) (b:Bool),vs = [x,y] /\ PairQ K H x y b /\ ∀ H',Same H H' -> Q (.bl b) H'
noncomputable def spIsWish (K:PySem.W.Frag):Sp:=fun vs H Q _ => ∃ (x:V) (b:Bool),vs = [x] /\ IsWishQ K H x b /\ ∀ H',Same H H' -> Q (.bl b) H'
noncomputable def NL (K:PySem.W.Frag) (H:Hp) (x:V):Prop:=∃ t,TyOf K H x t /\ PySem.W.kitOne K t (.type "list") = some false
theorem _root_.L2.IsWishQ.sm {K:PySem.W.Frag} {H H':Hp} {x:V} {b:Bool} (h:IsWishQ K H x b) (s:Same H H'):IsWishQ K H' x b:=by
  cases h with
  | nt h => exact .nt (h.sm s)
  | len h n3 n4 => exact .len (s _ _ h) n3 n4
  | no3 h hu => exact .no3 (s _ _ h) (hu.sm s)
  | four h h1 h2 => exact .four (s _ _ h) h1 h2
  | nop h h1 hp => exact .nop (s _ _ h) h1 (hp.sm s)
  | frac h h1 hp ht => exact .frac (s _ _ h) h1 (hp.sm s) fun H2 s2 => ht H2 (s.trans s2)
  | frm0 h hx => exact .frm0 (s _ _ h) (hx.sm s)
  | frm h hx ht => exact .frm (s _ _ h) (hx.sm s) fun H2 s2 => ht H2 (s.trans s2)
  | wit0 h h1 h2 => exact .wit0 (s _ _ h) h1 h2
  | wit h hp => exact .wit (s _ _ h) (hp.sm s)
noncomputable def BadQ (K:PySem.W.Frag) (H:Hp) (x v:V):Prop:=(∃ (l:Addr) (vs:List V) (i:Nat) (y:V),x = .ref l /\ H l = some (.lst vs) /\ vs.length <= 300 /\ vs[i]? = some y /\ IsWishQ K H y false /\ (∀ j y',j < i -> vs[j]? = some y' -> IsWishQ K H y' true) /\ v = .int (i:Int)) ∨ (NL K H x /\ v = .non)
theorem BadQ.sm {K:PySem.W.Frag} {H H':Hp} {x v:V} (h:BadQ K H x v) (s:Same H H'):BadQ K H' x v:=by
  rcases h with ⟨l,vs,i,y,e,hl,hn,hy,hb,hg,ev⟩ | ⟨⟨t,ty,e⟩,ev⟩
  . exact .inl ⟨l,vs,i,y,e,s _ _ hl,hn,hy,hb.sm s,fun j y' hj e => (hg j y' hj e).sm s,ev⟩
  . exact .inr ⟨⟨t,ty.sm s,e⟩,ev⟩
noncomputable def GoodQ (H:Hp) (x:V):Prop:=∃ (l:Addr) (ws:List Wsh),x = .ref l /\ LQ WishQ H l ws /\ (∀ w ∈ ws,w.ok) /\ ws.length <= 300
noncomputable def spRefuse52 (K:PySem.W.Frag) (C:Addr):Sp:=fun vs H Q E => ∃ x:V,vs = [x] /\ ((GoodQ H x /\ ∀ H',Same H H' -> Q .non H') ∨ ∃ v,BadQ K H x v /\ ∀ dx H',Same H H' -> H' dx = some (.xd [("at",v)]) -> E (.ref C) (some dx) H')
noncomputable def spStepsBy:Sp:=fun vs H Q _ => ∃ (k:Nat) (v:V) (w:Wsh),vs = [.int k,v] /\ WishQ H v w /\ ∀ l H',H l = none -> Same H H' -> LQ StepQ H' l (stepsBy k w) -> Q (.ref l) H'
noncomputable def spStepsOf52 (K:PySem.W.Frag) (C:Addr):Sp:=fun vs H Q E => ∃ x:V,vs = [x] /\ ((∃ (l:Addr) (ws:List Wsh),x = .ref l /\ LQ WishQ H l ws /\ (∀ w ∈ ws,w.ok) /\ ws.length <= 300 /\ ∀ l' H',H l' = none -> Same H H' -> LQ StepQ H' l' (stepsOf ws) -> Q (.ref l') H') ∨ ∃ v,BadQ K H x v /\ ∀ dx H',Same H H' -> H' dx = some (.xd [("at",v)]) -> E (.ref C) (some dx) H')
noncomputable def spPlayed52 (K:PySem.W.Frag) (C:Addr):Sp:=fun vs H Q E => ∃ x v:V,vs = [x] /\ BadQ K H x v /\ ∀ dx H',Same H H' -> H' dx = some (.xd [("at",v)]) -> E (.ref C) (some dx) H'
noncomputable def spCell (K:PySem.W.Frag):Sp:=fun vs H Q _ => ∃ (a:Addr) (ns:List Int) (k:Int),vs = [.ref a,.int k] /\ SqL K H a (ns.map V.int) /\ 0 <= k /\ ∀ r,Q (.int r) H
noncomputable def spNumW (K:PySem.W.Frag):Sp:=fun vs H Q _ => ∃ (a:Addr) (ns:List Int) (k:Int),vs = [.ref a,.int k] /\ SqL K H a (ns.map V.int) /\ 0 <= k /\ k <= 1000 /\ ∀ r,0 <= r -> Q (.int r) H
noncomputable def spLowest:Sp:=fun vs H Q _ => ∃ (t b:Int),vs = [.int t,.int b] /\ 0 < b /\ Sm 8000 t /\ Sm 8000 b /\
  ∀ p,H p = none -> Q (.ref p) (upd H p (.tup [.int (lowT t b),.int (lowB t b)]))
noncomputable def spShareW:Sp:=fun vs H Q _ => ∃ (r:Int),vs = [.int r] /\ 0 <= r /\ ∀ p t b,H p = none -> 0 < b -> b <= 10 ^ 30 -> -(10 ^ 30) <= t -> t <= 10 ^ 30 -> Q (.ref p) (upd H p (.tup [.int (lowT t b),.int (lowB t b)]))
noncomputable def spBells (K:PySem.W.Frag):Sp:=fun vs H Q _ => ∃ (a:Addr) (ns:List Int) (mo:Int),vs = [.ref a,.int mo] /\ SqL K H a (ns.map V.int) /\ 8 <= mo /\ mo <= 100 /\
  ∀ (l:Addr) (H':Hp) (i j o e n:Nat),H l = none -> Same H H' -> i < 4 -> j < 4 -> 8 <= n -> n <= mo.toNat -> H' l = some (.lst ((nmsB i j o e n).map V.str)) -> Q (.ref l) H'
noncomputable def spWish (K:PySem.W.Frag):Sp:=fun vs H Q _ => ∃ (n:Int) (l:Addr) (U:List Str),vs = [.int n,.ref l] /\ 0 <= n /\ H l = some (.lst (U.map V.str)) /\ 8 <= U.length /\ U.length <= 100 /\ U.Nodup /\ (∀ s ∈ U,PostS s) /\
  ∀ (v:V) (H':Hp) (w:Wsh),Same H H' -> WishQ H' v w -> w.ok -> w.inU U -> w.bdW -> Q v H'
noncomputable def OddQ (K:PySem.W.Frag) (H:Hp) (v:V):Prop:=IsWishQ K H v false /\ ∃ d,Den H d v /\ dep d <= 5
mutual
theorem den_sm {H H':Hp} (s:Same H H'):∀ {d:Dt} {v:V},Den H d v -> Den H' d v
  | .non,_,h => h
  | .bl _,_,h => h
  | .int _,_,h => h
  | .str _,_,h => h
  | .tup _,_,⟨p,vs,e,hp,h⟩ => ⟨p,vs,e,s _ _ hp,denL_sm s h⟩
  | .lst _,_,⟨p,vs,e,hp,h⟩ => ⟨p,vs,e,s _ _ hp,denL_sm s h⟩
theorem denL_sm {H H':Hp} (s:Same H H'):∀ {ds:List Dt} {vs:List V},DenL H ds vs -> DenL H' ds vs
  | [],_,h => h
  | _ :: _,_,⟨v,r,e,h,t⟩ => ⟨v,r,e,den_sm s h,denL_sm s t⟩
end
theorem OddQ.sm {K:PySem.W.Frag} {H H':Hp} {v:V} (h:OddQ K H v) (s:Same H H'):OddQ K H' v:=let ⟨a,d,b,c⟩:=h; ⟨a.sm s,d,den_sm s b,c⟩
noncomputable def NewK (H0 H G:Hp):Prop:=∀ b o,H0 b = none -> H b = some o -> G b = some o
noncomputable def OddN (K:PySem.W.Frag) (H0 H:Hp) (v:V):Prop:=∀ G,NewK H0 H G -> OddQ K G v
theorem OddN.sm {K:PySem.W.Frag} {H0 H H':Hp} {v:V} (h:OddN K H0 H v) (s:Same H H'):OddN K H0 H' v:=fun G nk => h G fun b o e1 e2 => nk b o e1 (s _ _ e2)
theorem pq_t {K:PySem.W.Frag} {H:Hp} {sa sb:Str} (ha:PostS sa) (hb:PostS sb) (hab:sa ≠ sb):PairQ K H (.str sa) (.str sb) true:=by
  have:=PairQ.both (K:=K) (H:=H) ha.q hb.q
  rw [decide_eq_false hab] at this
  exact this
theorem pq_f {K:PySem.W.Frag} {H:Hp} {sa:Str} (ha:PostS sa):PairQ K H (.str sa) (.str sa) false:=by
  have:=PairQ.both (K:=K) (H:=H) ha.q ha.q
  rw [decide_eq_true rfl] at this
  exact this
noncomputable def smB:V -> Bool
  | .int a => decide (-100 <= a) && decide (a <= 100)
  | _ => true
theorem fq_no {K:PySem.W.Frag} {H:Hp} {p:Addr} {v w:V} (h:H p = some (.tup [v,w])) (f1:flatV v = true) (f2:flatV w = true) (z:(smB v && smB w) = true) (e:frV v w = false):Frq K H (.ref p) false:=by
  refine .inr (.inr ⟨p,v,w,rfl,h,f1,f2,fun a b ea eb => ?_,e.symm⟩)
  subst ea eb
  rw [Bool.and_eq_true] at z
  have z1:=z.1
  have z2:=z.2
  unfold smB at z1 z2
  rw [Bool.and_eq_true,decide_eq_true_iff,decide_eq_true_iff] at z1 z2
  exact ⟨(Sm.of (n:=64) (by omega) (by omega)).mono (by decide),(Sm.of (n:=64) (by omega) (by omega)).mono (by decide)⟩
theorem mq_neg {K:PySem.W.Frag} {H:Hp} {p:Addr} (h:H p = some (.tup [.int (-1),.int 2])):MomQ K H (.ref p) false :=
  MomQ.fr (K:=K) h rfl ((Sm.of (n:=64) (by omega) (by omega)).mono (by decide)) ((Sm.of (n:=64) (by omega) (by omega)).mono (by decide))
theorem odd_ne {a b:Int} {m j:Nat} (hm:2 <= m) (h:(j:Int) + (m:Int) * b = (j:Int) + (m:Int) * a + 1):False:=by
  have e:(m:Int) * (b - a) = 1:=by rw [Int.mul_sub]; omega
  have hc:b - a <= 0 ∨ 1 <= b - a:=by omega
  rcases hc with hc | hc
  . have:=Int.mul_le_mul_of_nonneg_left hc (show (0:Int) <= (m:Int) by omega)
    omega
  . have:=Int.mul_le_mul_of_nonneg_left hc (show (0:Int) <= (m:Int) by omega)
    omega
noncomputable def spOdd52 (K:PySem.W.Frag):Sp:=fun vs H Q _ => ∃ (n:Int) (l:Addr) (U:List Str),vs = [.int n,.ref l] /\ 0 <= n /\ H l = some (.lst (U.map V.str)) /\ 8 <= U.length /\ U.length <= 100 /\ U.Nodup /\ (∀ s ∈ U,PostS s) /\ ∀ (v:V) (H':Hp),Same H H' -> OddN K H H' v -> Q v H'
noncomputable def spAt52 (K:PySem.W.Frag):Sp:=fun vs H Q _ => ∃ (x:V) (b:Bool) (v:V),vs = [x,.bl b] /\ BadQ K H x v /\ ∀ l H',H l = none -> Same H H' -> H' l = some (.lst [v]) -> Q (.ref l) H'
noncomputable def Itm (H:Hp) (v:V):Prop:=∃ d,Den H d v /\ dep d <= 5
theorem Itm.sm {H H':Hp} {v:V} (h:Itm H v) (s:Same H H'):Itm H' v:=let ⟨d,a,b⟩:=h; ⟨d,den_sm s a,b⟩
theorem denL_of {H:Hp}:∀ {zs:List V},(∀ v ∈ zs,Itm H v) -> ∃ ds,DenL H ds zs /\ depL ds <= 50
  | [],_ => ⟨[],rfl,by simp [depL]⟩
  | v :: zs,h => by
    obtain ⟨d,a,b⟩:=h v (List.mem_cons_self ..)
    obtain ⟨ds,a2,b2⟩:=denL_of fun v hv => h v (List.mem_cons_of_mem _ hv)
    exact ⟨d :: ds,⟨v,zs,rfl,a,a2⟩,by rw [depL]; omega⟩
theorem good_at {K:PySem.W.Frag} {H:Hp} {ys:List V} {ws:List Wsh} (pw:Paired (WishQ H) ys ws) (hok:∀ w ∈ ws,w.ok) {j:Nat} {v:V} (h:ys[j]? = some v):IsWishQ K H v true /\ Itm H v:=by
  obtain ⟨w,hw,qw⟩:=Paired.at pw h
  exact ⟨qw.is (hok w (List.mem_of_getElem? hw)),_,qw.den,dep_wish w⟩
noncomputable def spSpoilt52 (K:PySem.W.Frag):Sp:=fun vs H Q _ => ∃ (l:Addr) (ys:List V) (ws:List Wsh) (n:Int) (lb:Addr) (U:List Str),vs = [.ref l,.int n,.ref lb] /\ H l = some (.lst ys) /\ Paired (WishQ H) ys ws /\ (∀ w ∈ ws,w.ok) /\ ws.length <= 60 /\ 0 <= n /\ H lb = some (.lst (U.map V.str)) /\ 8 <= U.length /\ U.length <= 100 /\ U.Nodup /\ (∀ s ∈ U,PostS s) /\
  ∀ (p lm:Addr) (zs:List V) (ds:List Dt) (i:Nat) (H':Hp),Same H H' -> H' p = some (.tup [.ref lm,.int (i:Int)]) -> H lm = none -> H' lm = some (.lst zs) -> zs.length <= 100 -> DenL H' ds zs -> depL ds <= 50 -> BadQ K H' (.ref lm) (.int (i:Int)) -> Q (.ref p) H'
noncomputable def spLaw (K:PySem.W.Frag):Sp:=fun vs H Q _ => ∃ (a:Addr) (ns:List Int),vs = [.ref a] /\ SqL K H a (ns.map V.int) /\ ns.length <= 63 /\ ∀ H',Q (.bl true) H'
theorem n_one {H:Hp} {Q:VK} {l m:Addr} {v:V} {d:Dt} (h1:H l = some (.lst [v])) (h2:H m = some (.lst [v])) (hd:Den H d v) (hp:dep d <= 5) (k:Q (.bl false) H):rNeA (.ref l) (.ref m) H Q:=by
  have e:DenL H [d] [v]:=⟨v,[],rfl,hd,rfl⟩
  refine n_lst (ds:=[d]) (es:=[d]) ⟨l,_,rfl,h1,e⟩ ⟨m,_,rfl,h2,e⟩ (by rw [depL,depL]; omega) ?_
  rw [DenL.same_eq [d] [d] e e]
  exact k
noncomputable def clsBody (s:Stmt):List Stmt:=match s with | .ClassDef _ _ _ b _ _ _ _ _ _ _ => b | _ => []
noncomputable abbrev s_init:Stmt:=(clsBody (top 6)).getD 0 (.Pass ⟨0,0,0,0⟩)
theorem sc_init:FnScope ["self","at"] ["self","at"] (defScope s_init):=⟨rfl,rfl,rfl,by decide +kernel,rfl,by decide +kernel,by decide +kernel⟩
noncomputable def spInitW (C:Addr):Sp:=fun vs H Q _ => ∃ (x:Addr) (v:V),vs = [.ref x,v] /\ H x = some (nwO x C none) /\ (v = .non ∨ ∃ i:Nat,v = .int (i:Int) /\ i < 1000) /\ ∀ dx,H dx = none -> dx ≠ x -> Q .non (upd (upd H dx (.xd [("at",v)])) x (nwO x C (some dx)))
section
variable {P:Program} {w:World} {K:PySem.W.Frag} {mg:Str -> Option Value} {base:Heap} {k:Nat} {xt x0 x1 x5 x6 x11:Addr}
set_option maxHeartbeats 0 in
theorem ok_init (T:Bl mg) (d:DfM K x11 s_init "__init__" "NoWish.__init__" ["self","at"]) (W:XmS mg xt x0 x1 x5 x6 x11) (R_NoWish:XrS K xt x0 x1 x5 x6 x11 x11 11):OkI P w K mg base (k + 2) x11 ["self","at"] (spInitW x11):=by
  refine OkI.of d sc_init (fun vs H Q E h => ?_) (fun f cdv A outer s H vs Q E hr h => ?_)
  . obtain ⟨x,v,rfl,_⟩:=h
    rfl
  . obtain ⟨x,v,rfl,hx,hv,q⟩:=h
    refine ⟨_,(@pss_cons _ _ _ _ _ (@ps_binit _ _ _ _ _ _ _ _ _ _ _ rfl W.t R_NoWish.b (@pa_cons _ _ _ _ _ (pv 0) (@pa_cons _ _ _ _ _ (@pe_ifExp _ _ _ _ _ _ _ _ (@pt_cmpR _ _ _ _ _ _ _ _ op_isN2 (pv 1) (@pe_non _ _ _) (nomark _)) (@pe_str _ _ _ _) (@pe_fst _ _ _ _ _ _ (@pj_cons _ _ _ _ _ (@pe_str _ _ _ _) (@pj_cons _ _ _ _ _ (@pe_fmt _ _ _ _ (pv 1)) (@pj_cons _ _ _ _ _ (@pe_str _ _ _ _) (@pj_nil _)))) (by decide))) (@pa_nil _) (by rfl)) (by rfl)) (by decide) (by rfl) (by rfl) (by rfl) (by rfl)) (@pss_one _ _ _ (@ps_setat _ (CT:=xt) _ _ _ _ _ _ (pv 0) (pv 1) (by rfl)))),?_⟩
    rcases hv with rfl | ⟨i,rfl,h1⟩
    . walk_at "go"
      refine r_binit ?_
      walk_at "go"
      refine ⟨x,x11,_,rfl,hx,R_NoWish.x,R_NoWish.c,?_⟩
      walk_at "go"
      refine r_sat ?_
      walk_at "go"
      refine ⟨x,x11,rfl,hx,R_NoWish.c,fun dx hd ne => ?_⟩
      walk_at "go"
      exact q dx hd ne
    . walk_at "go"
      refine r_binit ?_
      walk_at "go"
      refine r_fmK (i:=i) (by omega) fun z hz => ?_
      walk_at "go"
      intro z'
      walk_at "go"
      refine ⟨x,x11,_,rfl,hx,R_NoWish.x,R_NoWish.c,?_⟩
      walk_at "go"
      refine r_sat ?_
      walk_at "go"
      refine ⟨x,x11,rfl,hx,R_NoWish.c,fun dx hd ne => ?_⟩
      walk_at "go"
      exact q dx hd ne
theorem ok_is_whole (T:Bl mg) (d:Df K mg "is_whole" s_is_whole ["thing"]  ) (W:XmS mg xt x0 x1 x5 x6 x11) (R_NoWish:XrS K xt x0 x1 x5 x6 x11 x11 11):Okf P w K mg base (k + 1) "is_whole" ["thing"] (spWhole K):=by
  refine Okf.of d sc_is_whole (fun vs H Q E h => ?_) (fun f cdv A outer s H vs Q E hr h => ?_)
  . obtain ⟨x,t,b,c,rfl,_⟩:=h
    rfl
  . obtain ⟨x,t,b,c,rfl,ty,e1,e2,q⟩:=h
    refine ⟨_,(@pss_one _ _ _ (@ps_ret _ _ _ _ (@pe_and _ _ _ _ _ _ _ (@pe_callB _ _ _ _ _ _ _ _ _ (call_isTy (T:="int")) rfl T.z_isinstance bt_isinstance (@pa_cons _ _ _ _ _ (pv 0) (@pa_cons _ _ _ _ _ (@pe_bltn _ _ (v:=.ty "int") _ _ rfl T.z_int bt_int rfl (by decide) (by decide)) (@pa_nil _) (by rfl)) (by rfl)) (by decide) (by decide) (by rfl) (by rfl)) (@pe_one _ _ _ _ _ (@pe_not _ _ _ _ (@pe_callB _ _ _ _ _ _ _ _ _ (call_isTy (T:="bool")) rfl T.z_isinstance bt_isinstance (@pa_cons _ _ _ _ _ (pv 0) (@pa_cons _ _ _ _ _ (@pe_bltn _ _ (v:=.ty "bool") _ _ rfl T.z_bool bt_bool rfl (by decide) (by decide)) (@pa_nil _) (by rfl)) (by rfl)) (by decide) (by decide) (by rfl) (by rfl))))))),?_⟩
    walk_at "go"
    refine r_isTy ty e1 ?_
    cases b
    . walk_at "go"
      exact q
    . walk_at "go"
      refine r_isTy ty e2 ?_
      walk_at "go"
      exact q
theorem ok_common_divisor (T:Bl mg) (d:Df K mg "common_divisor" s_common_divisor ["one","other"]  ) (W:XmS mg xt x0 x1 x5 x6 x11) (R_NoWish:XrS K xt x0 x1 x5 x6 x11 x11 11):Okf P w K mg base (k + 1) "common_divisor" ["one","other"] spGcd:=by
  refine Okf.of d sc_common_divisor (fun vs H Q E h => ?_) (fun f cdv A outer s H vs Q E hr h => ?_)
  . obtain ⟨a,b,rfl,_⟩:=h
    rfl
  . obtain ⟨a,b,rfl,q⟩:=h
    refine ⟨_,(@pss_cons _ _ _ _ _ (@ps_while _ _ _ _ _ _ PassesOwn.never (@pt_cmpR _ _ _ _ _ _ _ _ (op_neA hr.units) (pv 1) (@pe_int _ _ _ _) (nomark _)) (@pss_cons _ _ _ _ _ (@ps_set _ _ (i:=2) _ _ _ _ sc_common_divisor.nd rfl (by first | exact Or.inl rfl | exact Or.inr rfl) (@pe_op _ _ _ _ _ _ _ _ op_modN (pv 0) (pv 1)) (by rfl) (by first | exact .inl rfl | exact .inr rfl | assumption)) (@pss_cons _ _ _ _ _ (@ps_set _ _ (i:=0) _ _ _ _ sc_common_divisor.nd rfl (by first | exact Or.inl rfl | exact Or.inr rfl) (pv 1) (by rfl) (by first | exact .inl rfl | exact .inr rfl | assumption)) (@pss_one _ _ _ (@ps_set _ _ (i:=1) _ _ _ _ sc_common_divisor.nd rfl (by first | exact Or.inl rfl | exact Or.inr rfl) (pv 2) (by rfl) (by first | exact .inl rfl | exact .inr rfl | assumption)))))) (@pss_one _ _ _ (@ps_ret _ _ _ _ (@pe_callB _ _ _ _ _ _ _ _ _ c_abs rfl T.z_abs bt_abs (@pa_cons _ _ _ _ _ (pv 0) (@pa_nil _) (by rfl)) (by decide) (by decide) (by rfl) (by rfl))))),?_⟩
    walk_at "go"
    refine while_by (fun σ H' => ∃ (one other:Int) (o:Option V),σ = [some (.int one),some (.int other),o] /\ H' = H /\ Int.gcd one other = Int.gcd a b)
      (fun σ _ => match σ with | [_,some (.int z),_] => z.natAbs | _ => 0) ⟨_,_,_,rfl,rfl,rfl⟩ ?_ ?_
    . rintro σ H' ⟨one,other,o,rfl,rfl,hg⟩
      walk_at "go"
      refine i_d (fun c => ?_) (fun c => ?_)
      . subst c
        walk_at "go"
        rw [Int.gcd_zero_right] at hg
        have e:(if one < 0 then -one else one) = (Int.gcd a b:Int):=by rw [← hg]; split <;> omega
        rw [e]
        exact q
      . walk_at "go"
        refine ⟨⟨_,_,_,rfl,rfl,by rw [gcd_stepN c]; exact hg⟩,?_⟩
        show (one.fmod other).natAbs < other.natAbs
        exact fmod_lt c
    . intro σ H Q Q' hQ h
      obtain ⟨v,e1,h⟩:=h
      rcases h with ⟨e2,b',e3,q'⟩ | ⟨d,e,e2,e3,e4,e5,b',e6,q'⟩
      . exact ⟨v,e1,.inl ⟨e2,b',e3,hQ _ _ q'⟩⟩
      . exact ⟨v,e1,.inr ⟨d,e,e2,e3,e4,e5,b',e6,hQ _ _ q'⟩⟩
theorem ok_is_fraction (T:Bl mg) (d:Df K mg "is_fraction" s_is_fraction ["thing"]  ) (W:XmS mg xt x0 x1 x5 x6 x11) (R_NoWish:XrS K xt x0 x1 x5 x6 x11 x11 11) (o_common_divisor:Okf P w K mg base k "common_divisor" ["one","other"] spGcd) (o_is_whole:Okf P w K mg base k "is_whole" ["thing"] (spWhole K)):Okf P w K mg base (k + 1) "is_fraction" ["thing"] (spIsFrac K):=by
  refine Okf.of d sc_is_fraction (fun vs H Q E h => ?_) (fun f cdv A outer s H vs Q E hr h => ?_)
  . obtain ⟨x,r,rfl,_⟩:=h
    rfl
  . obtain ⟨x,r,rfl,h,q⟩:=h
    refine ⟨_,(@pss_cons _ _ _ _ _ (@ps_if _ _ _ _ _ _ _ _ (@PW.pt _ _ _ (@pw_or _ _ _ _ _ _ _ (@pt_not _ _ _ _ (@pt_val _ _ _ (@pe_callB _ _ _ _ _ _ _ _ _ (call_isTy (T:="tuple")) rfl T.z_isinstance bt_isinstance (@pa_cons _ _ _ _ _ (pv 0) (@pa_cons _ _ _ _ _ (@pe_bltn _ _ (v:=.ty "tuple") _ _ rfl T.z_tuple bt_tuple rfl (by decide) (by decide)) (@pa_nil _) (by rfl)) (by rfl)) (by decide) (by decide) (by rfl) (by rfl)) (by intro _; rfl))) (@pw_or1 _ _ _ _ (@pt_cmpR _ _ _ _ _ _ _ _ (op_neA hr.units) (@pe_callB _ _ _ _ _ _ _ _ _ c_len rfl T.z_len bt_len (@pa_cons _ _ _ _ _ (pv 0) (@pa_nil _) (by rfl)) (by decide) (by decide) (by rfl) (by rfl)) (@pe_int _ _ _ _) (nomark _))))) (@pss_one _ _ _ (@ps_ret _ _ _ _ (@pe_bl _ _ _ _))) (@pss_nil _)) (@pss_cons _ _ _ _ _ (@ps_if _ _ _ _ _ _ _ _ (@PW.pt _ _ _ (@pw_or _ _ _ _ _ _ _ (@pt_not _ _ _ _ (@pt_val _ _ _ (@pe_callO _ _ _ _ _ _ _ _ _ _ o_is_whole hr rfl (@pa_cons _ _ _ _ _ (@pe_ix _ _ _ _ _ _ _ ix_LT (pv 0) (@pe_int _ _ _ _) (fun _ _ => rfl)) (@pa_nil _) (by rfl)) (by decide) (by rfl) (by rfl)) (by intro _; rfl))) (@pw_or1 _ _ _ _ (@pt_not _ _ _ _ (@pt_val _ _ _ (@pe_callO _ _ _ _ _ _ _ _ _ _ o_is_whole hr rfl (@pa_cons _ _ _ _ _ (@pe_ix _ _ _ _ _ _ _ ix_LT (pv 0) (@pe_int _ _ _ _) (fun _ _ => rfl)) (@pa_nil _) (by rfl)) (by decide) (by rfl) (by rfl)) (by intro _; rfl)))))) (@pss_one _ _ _ (@ps_ret _ _ _ _ (@pe_bl _ _ _ _))) (@pss_nil _)) (@pss_one _ _ _ (@ps_ret _ _ _ _ (@pe_and _ _ _ _ _ _ _ (@pe_cmpR _ _ _ _ _ _ _ _ op_ge (@pe_ix _ _ _ _ _ _ _ ix_LT (pv 0) (@pe_int _ _ _ _) (fun _ _ => rfl)) (@pe_int _ _ _ _) (nomark _)) (@pe_one _ _ _ _ _ (@pe_cmpR _ _ _ _ _ _ _ _ (op_eqA hr.units) (@pe_callO _ _ _ _ _ _ _ _ _ _ o_common_divisor hr rfl (@pa_cons _ _ _ _ _ (@pe_ix _ _ _ _ _ _ _ ix_LT (pv 0) (@pe_int _ _ _ _) (fun _ _ => rfl)) (@pa_cons _ _ _ _ _ (@pe_ix _ _ _ _ _ _ _ ix_LT (pv 0) (@pe_int _ _ _ _) (fun _ _ => rfl)) (@pa_nil _) (by rfl)) (by rfl)) (by decide) (by rfl) (by rfl)) (@pe_int _ _ _ _) (nomark _)))))))),?_⟩
    rcases h with ⟨⟨t,ty,e1⟩,rfl⟩ | ⟨p,xs,rfl,h1,h2,rfl⟩ | ⟨p,v,w',rfl,h1,fv,fw,hsm,rfl⟩
    . walk_at "go"
      refine r_isTy ty e1 ?_
      walk_at "go"
      exact q
    . walk_at "go"
      refine r_isTy (.tup h1) kit_tuple_tuple ?_
      walk_at "go"
      exact q
    . walk_at "go"
      refine r_isTy (.tup h1) kit_tuple_tuple ?_
      walk_at "go"
      refine i_d (fun _ => ?_) (fun c => absurd rfl c)
      walk_at "go"
      obtain ⟨t1,b1,c1,ty1,k1,k2,e1⟩:=flat_ty (K:=K) (H:=H) fv
      refine ⟨v,t1,b1,c1,rfl,ty1,k1,k2,?_⟩
      rw [e1]
      walk_at "go"
      cases v with
      | int a =>
        refine i_bT rfl ?_
        walk_at "go"
        obtain ⟨t2,b2,c2,ty2,k3,k4,e2⟩:=flat_ty (K:=K) (H:=H) fw
        refine ⟨w',t2,b2,c2,rfl,ty2,k3,k4,?_⟩
        rw [e2]
        walk_at "go"
        cases w' with
        | int b =>
          refine i_bT rfl ?_
          walk_at "go"
          refine i_d (fun c => ?_) (fun c => ?_)
          . walk_at "go"
            refine ⟨a,b,rfl,?_⟩
            walk_at "go"
            have e:decide ((Int.gcd a b:Int) = 1) = frV (.int a) (.int b):=by
              show _ = (decide (1 <= b) && decide (Int.gcd a b = 1))
              rw [decide_eq_true c,Bool.true_and]
              by_cases hg:Int.gcd a b = 1
              . rw [decide_eq_true hg,decide_eq_true (by omega)]
              . rw [decide_eq_false hg,decide_eq_false (by omega)]
            rw [e]
            exact q
          . walk_at "go"
            have e:frV (.int a) (.int b) = false:=by
              show (decide (1 <= b) && decide (Int.gcd a b = 1)) = false
              rw [decide_eq_false c,Bool.false_and]
            rw [e] at q
            exact q
        | non => refine i_bF rfl ?_; walk_at "go"; exact q
        | bl _ => refine i_bF rfl ?_; walk_at "go"; exact q
        | str _ => refine i_bF rfl ?_; walk_at "go"; exact q
        | _ => exact absurd (show false = true from fw) Bool.false_ne_true
      | non => refine i_bF rfl ?_; walk_at "go"; exact q
      | bl _ => refine i_bF rfl ?_; walk_at "go"; exact q
      | str _ => refine i_bF rfl ?_; walk_at "go"; exact q
      | _ => exact absurd (show false = true from fv) Bool.false_ne_true
theorem ok_is_moment (T:Bl mg) (d:Df K mg "is_moment" s_is_moment ["thing"]  ) (W:XmS mg xt x0 x1 x5 x6 x11) (R_NoWish:XrS K xt x0 x1 x5 x6 x11 x11 11) (o_is_fraction:Okf P w K mg base k "is_fraction" ["thing"] (spIsFrac K)):Okf P w K mg base (k + 1) "is_moment" ["thing"] (spMomQ K):=by
  refine Okf.of d sc_is_moment (fun vs H Q E h => ?_) (fun f cdv A outer s H vs Q E hr h => ?_)
  . obtain ⟨x,b,rfl,_⟩:=h
    rfl
  . obtain ⟨x,b,rfl,h,q⟩:=h
    refine ⟨_,(@pss_one _ _ _ (@ps_ret _ _ _ _ (@pe_and _ _ _ _ _ _ _ (@pe_callO _ _ _ _ _ _ _ _ _ _ o_is_fraction hr rfl (@pa_cons _ _ _ _ _ (pv 0) (@pa_nil _) (by rfl)) (by decide) (by rfl) (by rfl)) (@pe_one _ _ _ _ _ (@pe_cmpR _ _ _ _ _ _ _ _ op_ge (@pe_ix _ _ _ _ _ _ _ ix_LT (pv 0) (@pe_int _ _ _ _) (fun _ _ => rfl)) (@pe_int _ _ _ _) (nomark _)))))),?_⟩
    cases h with
    | no h =>
      walk_at "go"
      refine ⟨_,false,rfl,h,?_⟩
      walk_at "go"
      exact q
    | @fr p a b h hf sa sb =>
      walk_at "go"
      refine ⟨_,true,rfl,.inr (.inr ⟨p,_,_,rfl,h,rfl,rfl,?_,hf.symm⟩),?_⟩
      . intro a' b' e1 e2
        cases e1
        cases e2
        exact ⟨sa,sb⟩
      walk_at "go"
      exact q
theorem ok_is_part (T:Bl mg) (d:Df K mg "is_part" s_is_part ["text"]  ) (W:XmS mg xt x0 x1 x5 x6 x11) (R_NoWish:XrS K xt x0 x1 x5 x6 x11 x11 11) {tk_LETTERS:Tok} (g_LETTERS:mg "LETTERS" = some (.str "abcdefghijklmnopqrstuvwxyz" tk_LETTERS)) {tk_MOST_LETTERS:Tok} (g_MOST_LETTERS:mg "MOST_LETTERS" = some (.int 8 tk_MOST_LETTERS)):Okf P w K mg base (k + 1) "is_part" ["text"] spPart:=by
  refine Okf.of d sc_is_part (fun vs H Q E h => ?_) (fun f cdv A outer s H vs Q E hr h => ?_)
  . obtain ⟨z,rfl,_⟩:=h
    rfl
  . obtain ⟨z,rfl,hz,q⟩:=h
    refine ⟨_,(@pss_one _ _ _ (@ps_ret _ _ _ _ (@pe_and _ _ _ _ _ _ _ (@pe_chain _ _ _ _ _ _ _ _ _ _ _ _ op_le op_le (@pe_int _ _ _ _) (@pe_callB _ _ _ _ _ _ _ _ _ c_len rfl T.z_len bt_len (@pa_cons _ _ _ _ _ (pv 0) (@pa_nil _) (by rfl)) (by decide) (by decide) (by rfl) (by rfl)) (@pe_glob _ _ (v:=(.int 8)) _ _ rfl g_MOST_LETTERS ⟨_,rfl⟩ (by decide)) (by with_unfolding_all rfl)) (@pe_one _ _ _ _ _ (@pe_callB _ _ _ _ _ _ _ _ _ (c_allB rfl) rfl T.z_all bt_all (@pa_cons _ _ _ _ _ (@pe_comp _ _ _ _ _ _ _ _ _ _ _ _ _ _ (@comp_ck _ _ (sc:=defScope s_is_part) (N:=["text"]) (tn:=["sign"]) (names:=[]) (is:=[]) rfl rfl (by decide +kernel) (by decide +kernel) rfl (by decide +kernel) rfl (by decide +kernel) (by decide +kernel) (by decide +kernel)) rfl (@pi_signs _ _ _ _ (pv 0)) (fun _ _ _ _ => (@pg_name _ _ (i:=0) _ (show (["sign"]:List Str).Nodup by decide +kernel) rfl (Or.inl rfl) (Or.inr rfl))) (fun _ _ _ _ => (@pe_cmpR _ _ _ _ _ _ _ _ op_inTx (pv 0) (@pe_glob _ _ (v:=(.str "abcdefghijklmnopqrstuvwxyz")) _ _ rfl g_LETTERS ⟨_,rfl⟩ (by decide)) (by with_unfolding_all rfl))) (fun _ _ _ _ => (@pts_none _)) (by intro _; rfl)) (@pa_nil _) (by rfl)) (by decide) (by decide) (by rfl) (by rfl)))))),?_⟩
    walk_at "go"
    have hzs:z.length <= sizeLine:=by rw [sizeLine_eq]; omega
    refine r_lens hzs ?_
    walk_at "go"
    refine i_d (fun c1 => ?_) (fun c1 => ?_)
    . walk_at "go"
      refine i_d (fun c2 => ?_) (fun c2 => ?_)
      . walk_at "go"
        refine ⟨z,rfl,?_⟩
        refine r_compS hz (fun acc i ys G => Kp acc H G /\ ys = (z.cps.toList.take i).map fun c => V.bl (decide (97 <= c) && decide (c < 123))) (fun acc h0 => ⟨Kp.new h0,rfl⟩) ?_ ?_
        . intro acc i ys G c h0 hx hyl hG ⟨kp,e⟩
          walk_at "go"
          have hx':z.cps.toList[i]? = some c:=by simpa using hx
          have hi:i < z.cps.toList.length:=(List.getElem?_eq_some_iff.mp hx').1
          refine c_next (by rw [len_cps]; exact hi) hyl hG ⟨Kp.trans kp Kp.upd,?_⟩
          have e2:z.cps.toList[i] = c:=by
            rw [List.getElem?_eq_getElem hi] at hx'
            exact Option.some.inj hx'
          rw [List.take_succ_eq_append_getElem hi,List.map_append,← e,e2,letters_mem]
          rfl
        . intro acc ys G h0 hG hl ⟨kp,e⟩
          walk_at "go"
          rw [len_cps,List.take_length] at e
          subst e
          have e3:(z.cps.toList.map fun c => V.bl (decide (97 <= c) && decide (c < 123))) = (z.cps.toList.map fun c => (decide (97 <= c) && decide (c < 123))).map V.bl:=by rw [List.map_map]; rfl
          rw [e3] at hG
          refine r_allB hG ?_
          walk_at "go"
          have e4:(z.cps.toList.map fun c => (decide (97 <= c) && decide (c < 123))).all id = partB z:=by
            unfold partB
            rw [decide_eq_true (show 1 <= z.length by omega),decide_eq_true (show z.length <= 8 by omega),Bool.and_true,Bool.true_and,List.all_map]
            rfl
          rw [e4]
          exact q _ (Same.kpn h0 (Same.refl _) kp)
      . walk_at "go"
        have e:partB z = false:=by
          unfold partB
          rw [decide_eq_false (show ¬ z.length <= 8 by omega),Bool.and_false,Bool.false_and]
        rw [e] at q
        exact q _ (Same.refl _)
    . walk_at "go"
      have e:partB z = false:=by
        unfold partB
        rw [decide_eq_false (show ¬ 1 <= z.length by omega),Bool.false_and,Bool.false_and]
      rw [e] at q
      exact q _ (Same.refl _)
theorem ok_is_post (T:Bl mg) (d:Df K mg "is_post" s_is_post ["thing"]  ) (W:XmS mg xt x0 x1 x5 x6 x11) (R_NoWish:XrS K xt x0 x1 x5 x6 x11 x11 11) {tk_MOST_PARTS:Tok} (g_MOST_PARTS:mg "MOST_PARTS" = some (.int 4 tk_MOST_PARTS)) (o_is_part:Okf P w K mg base k "is_part" ["text"] spPart):Okf P w K mg base (k + 1) "is_post" ["thing"] (spPost K):=by
  refine Okf.of d sc_is_post (fun vs H Q E h => ?_) (fun f cdv A outer s H vs Q E hr h => ?_)
  . obtain ⟨x,b,rfl,_⟩:=h
    rfl
  . obtain ⟨x,b,rfl,h,q⟩:=h
    refine ⟨_,(@pss_cons _ _ _ _ _ (@ps_if _ _ _ _ _ _ _ _ (@pt_not _ _ _ _ (@pt_val _ _ _ (@pe_callB _ _ _ _ _ _ _ _ _ (call_isTy (T:="str")) rfl T.z_isinstance bt_isinstance (@pa_cons _ _ _ _ _ (pv 0) (@pa_cons _ _ _ _ _ (@pe_bltn _ _ (v:=.ty "str") _ _ rfl T.z_str bt_str rfl (by decide) (by decide)) (@pa_nil _) (by rfl)) (by rfl)) (by decide) (by decide) (by rfl) (by rfl)) (by intro _; rfl))) (@pss_one _ _ _ (@ps_ret _ _ _ _ (@pe_bl _ _ _ _))) (@pss_nil _)) (@pss_cons _ _ _ _ _ (@ps_set _ _ (i:=1) _ _ _ _ sc_is_post.nd rfl (by first | exact Or.inl rfl | exact Or.inr rfl) (@pe_bm _ _ _ _ _ _ _ _ _ _ _ _ PySem.F.plainAttrs_str PySem.F.slot_str_split PySem.F.type_str_split mt_split (pv 0) (@pa_cons _ _ _ _ _ (@pe_str _ _ _ _) (@pa_nil _) (by rfl)) (by rfl) (by rfl) (by rfl) (by rfl) (by rfl)) (by rfl) (by first | exact .inl rfl | exact .inr rfl | assumption)) (@pss_one _ _ _ (@ps_ret _ _ _ _ (@pe_and _ _ _ _ _ _ _ (@pe_cmpR _ _ _ _ _ _ _ _ op_le (@pe_callB _ _ _ _ _ _ _ _ _ c_len rfl T.z_len bt_len (@pa_cons _ _ _ _ _ (pv 1) (@pa_nil _) (by rfl)) (by decide) (by decide) (by rfl) (by rfl)) (@pe_glob _ _ (v:=(.int 4)) _ _ rfl g_MOST_PARTS ⟨_,rfl⟩ (by decide)) (nomark _)) (@pe_one _ _ _ _ _ (@pe_callB _ _ _ _ _ _ _ _ _ (c_allB rfl) rfl T.z_all bt_all (@pa_cons _ _ _ _ _ (@pe_comp _ _ _ _ _ _ _ _ _ _ _ _ _ _ (@comp_ck _ _ (sc:=defScope s_is_post) (N:=["thing","parts"]) (tn:=["part"]) (names:=[]) (is:=[]) rfl rfl (by decide +kernel) (by decide +kernel) rfl (by decide +kernel) rfl (by decide +kernel) (by decide +kernel) (by decide +kernel)) rfl (@pi_list _ _ _ _ (pv 1)) (fun _ _ _ _ => (@pg_name _ _ (i:=0) _ (show (["part"]:List Str).Nodup by decide +kernel) rfl (Or.inl rfl) (Or.inr rfl))) (fun _ _ _ _ => (@pe_callO _ _ _ _ _ _ _ _ _ _ o_is_part hr rfl (@pa_cons _ _ _ _ _ (pv 0) (@pa_nil _) (by rfl)) (by decide) (by rfl) (by rfl))) (fun _ _ _ _ => (@pts_none _)) (by intro _; rfl)) (@pa_nil _) (by rfl)) (by decide) (by decide) (by rfl) (by rfl)))))))),?_⟩
    rcases h with ⟨z,rfl,hz,rfl⟩ | ⟨⟨t,ty,e1⟩,rfl⟩
    . walk_at "go"
      refine r_isTy (.str z) kit_str_str ?_
      walk_at "go"
      have ep:(".":Str) = ⟨#[46]⟩:=by decide +kernel
      rw [ep]
      refine r_split (z:=z) (y:=⟨#[46]⟩) (by decide) (by omega) fun l hl => ?_
      have hps:=post_split z
      have hsh:∀ p ∈ Txt.split z ⟨#[46]⟩,p.length <= 1000:=fun p hp => Nat.le_trans (sp_short hp) hz
      have hsl:=sp_few z ⟨#[46]⟩
      generalize Txt.split z ⟨#[46]⟩ = ps at hps hsh hsl ⊢
      walk_at "go"
      rw [List.length_map]
      refine i_d (fun c => ?_) (fun c => ?_)
      . walk_at "go"
        refine r_listK (SqL.of upd_same) ?_
        refine r_compL (xs:=ps.map V.str) (by rw [List.length_map]; omega) (fun acc i ys G => Kp acc (upd H l (.lst (ps.map V.str))) G /\ ys = (ps.take i).map fun p => V.bl (partB p)) (fun acc h0 => ⟨Kp.new h0,rfl⟩) ?_ ?_ ?_
        . intro acc i ys G h0 _ ⟨kp,_⟩
          exact SqL.of (kp _ _ (ne_of_none upd_same h0) upd_same)
        . intro acc i ys G x h0 hx hyl hG ⟨kp,e⟩
          rw [List.getElem?_map] at hx
          cases hy:ps[i]? with
          | none => rw [hy] at hx; cases hx
          | some y =>
            rw [hy] at hx
            cases (Option.some.inj hx:V.str y = x)
            walk_at "go"
            refine ⟨y,rfl,hsh y (List.mem_of_getElem? hy),fun G1 s1 => ?_⟩
            have hi:i < ps.length:=(List.getElem?_eq_some_iff.mp hy).1
            refine c_next (by rw [List.length_map]; exact hi) hyl (s1 _ _ hG) ⟨Kp.trans (Kp.trans kp s1.kp) Kp.upd,?_⟩
            have e2:ps[i] = y:=by
              rw [List.getElem?_eq_getElem hi] at hy
              exact Option.some.inj hy
            rw [List.take_succ_eq_append_getElem hi,List.map_append,← e,e2]
            rfl
        . intro acc ys G h0 hG hyl ⟨kp,e⟩
          rw [List.length_map,List.take_length] at e
          subst e
          walk_at "go"
          have e3:(ps.map fun p => V.bl (partB p)) = (ps.map partB).map V.bl:=by rw [List.map_map]; rfl
          rw [e3] at hG
          refine r_allB hG ?_
          walk_at "go"
          have e4:(ps.map partB).all id = postB z:=by
            rw [hps,decide_eq_true (show ps.length <= 4 by omega),Bool.true_and,List.all_map]
            rfl
          rw [e4]
          exact q _ ((Same.new hl).trans (Same.kpn h0 (Same.refl _) kp))
      . walk_at "go"
        rw [decide_eq_false (show ¬ ps.length <= 4 by omega),Bool.false_and] at hps
        rw [hps] at q
        exact q _ (Same.new hl)
    . walk_at "go"
      refine r_isTy ty e1 ?_
      walk_at "go"
      exact q _ (Same.refl _)
theorem ok_is_pair (T:Bl mg) (d:Df K mg "is_pair" s_is_pair ["one","other"]  ) (W:XmS mg xt x0 x1 x5 x6 x11) (R_NoWish:XrS K xt x0 x1 x5 x6 x11 x11 11) (o_is_post:Okf P w K mg base k "is_post" ["thing"] (spPost K)):Okf P w K mg base (k + 1) "is_pair" ["one","other"] (spPairQ K):=by
  refine Okf.of d sc_is_pair (fun vs H Q E h => ?_) (fun f cdv A outer s H vs Q E hr h => ?_)
  . obtain ⟨x,y,b,rfl,_⟩:=h
    rfl
  . obtain ⟨x,y,b,rfl,h,q⟩:=h
    refine ⟨_,(@pss_one _ _ _ (@ps_ret _ _ _ _ (@pe_and _ _ _ _ _ _ _ (@pe_callO _ _ _ _ _ _ _ _ _ _ o_is_post hr rfl (@pa_cons _ _ _ _ _ (pv 0) (@pa_nil _) (by rfl)) (by decide) (by rfl) (by rfl)) (@pe_and _ _ _ _ _ _ _ (@pe_callO _ _ _ _ _ _ _ _ _ _ o_is_post hr rfl (@pa_cons _ _ _ _ _ (pv 1) (@pa_nil _) (by rfl)) (by decide) (by rfl) (by rfl)) (@pe_one _ _ _ _ _ (@pe_cmpR _ _ _ _ _ _ _ _ (op_neA hr.units) (pv 0) (pv 1) (nomark _))))))),?_⟩
    cases h with
    | one h =>
      walk_at "go"
      refine ⟨_,false,rfl,h,fun H1 s1 => ?_⟩
      walk_at "go"
      exact q _ s1
    | two hx hy =>
      walk_at "go"
      refine ⟨_,true,rfl,hx,fun H1 s1 => ?_⟩
      walk_at "go"
      refine ⟨_,false,rfl,hy.sm s1,fun H2 s2 => ?_⟩
      walk_at "go"
      exact q _ (s1.trans s2)
    | @both s1 s2 hx hy =>
      walk_at "go"
      refine ⟨_,true,rfl,hx,fun H1 e1 => ?_⟩
      walk_at "go"
      refine ⟨_,true,rfl,hy.sm e1,fun H2 e2 => ?_⟩
      walk_at "go"
      have e:(!(s1 == s2)) = !decide (s1 = s2):=by by_cases e:s1 = s2 <;> simp [e]
      first
      | exact q _ (e1.trans e2)
      | (rw [e]; exact q _ (e1.trans e2))
set_option maxHeartbeats 0 in
theorem ok_is_wish (T:Bl mg) (d:Df K mg "is_wish" s_is_wish ["thing"]  ) (W:XmS mg xt x0 x1 x5 x6 x11) (R_NoWish:XrS K xt x0 x1 x5 x6 x11 x11 11) (o_is_pair:Okf P w K mg base k "is_pair" ["one","other"] (spPairQ K)) (o_is_moment:Okf P w K mg base k "is_moment" ["thing"] (spMomQ K)) (o_is_post:Okf P w K mg base k "is_post" ["thing"] (spPost K)) (o_is_fraction:Okf P w K mg base k "is_fraction" ["thing"] (spIsFrac K)):Okf P w K mg base (k + 1) "is_wish" ["thing"] (spIsWish K):=by
  refine Okf.of d sc_is_wish (fun vs H Q E h => ?_) (fun f cdv A outer s H vs Q E hr h => ?_)
  . obtain ⟨x,b,rfl,_⟩:=h
    rfl
  . obtain ⟨x,b,rfl,h,q⟩:=h
    refine ⟨_,(@pss_cons _ _ _ _ _ (@ps_if _ _ _ _ _ _ _ _ (@PW.pt _ _ _ (@pw_or _ _ _ _ _ _ _ (@pt_not _ _ _ _ (@pt_val _ _ _ (@pe_callB _ _ _ _ _ _ _ _ _ (call_isTy (T:="tuple")) rfl T.z_isinstance bt_isinstance (@pa_cons _ _ _ _ _ (pv 0) (@pa_cons _ _ _ _ _ (@pe_bltn _ _ (v:=.ty "tuple") _ _ rfl T.z_tuple bt_tuple rfl (by decide) (by decide)) (@pa_nil _) (by rfl)) (by rfl)) (by decide) (by decide) (by rfl) (by rfl)) (by intro _; rfl))) (@pw_or _ _ _ _ _ _ _ (@pt_cmpR _ _ _ _ _ _ _ _ op_notIn_seq (@pe_callB _ _ _ _ _ _ _ _ _ c_len rfl T.z_len bt_len (@pa_cons _ _ _ _ _ (pv 0) (@pa_nil _) (by rfl)) (by decide) (by decide) (by rfl) (by rfl)) (@pe_tup _ _ _ _ _ (@pa_cons _ _ _ _ _ (@pe_int _ _ _ _) (@pa_cons _ _ _ _ _ (@pe_int _ _ _ _) (@pa_nil _) (by rfl)) (by rfl))) (by with_unfolding_all rfl)) (@pw_or1 _ _ _ _ (@pt_not _ _ _ _ (@pt_val _ _ _ (@pe_callB _ _ _ _ _ _ _ _ _ (call_isTy (T:="str")) rfl T.z_isinstance bt_isinstance (@pa_cons _ _ _ _ _ (@pe_ix _ _ _ _ _ _ _ ix_LT (pv 0) (@pe_int _ _ _ _) (fun _ _ => rfl)) (@pa_cons _ _ _ _ _ (@pe_bltn _ _ (v:=.ty "str") _ _ rfl T.z_str bt_str rfl (by decide) (by decide)) (@pa_nil _) (by rfl)) (by rfl)) (by decide) (by decide) (by rfl) (by rfl)) (by intro _; rfl))))))) (@pss_one _ _ _ (@ps_ret _ _ _ _ (@pe_bl _ _ _ _))) (@pss_nil _)) (@pss_cons _ _ _ _ _ (@ps_if _ _ _ _ _ _ _ _ (@pt_cmpR _ _ _ _ _ _ _ _ (op_eqA hr.units) (@pe_callB _ _ _ _ _ _ _ _ _ c_len rfl T.z_len bt_len (@pa_cons _ _ _ _ _ (pv 0) (@pa_nil _) (by rfl)) (by decide) (by decide) (by rfl) (by rfl)) (@pe_int _ _ _ _) (nomark _)) (@pss_one _ _ _ (@ps_ret _ _ _ _ (@pe_and _ _ _ _ _ _ _ (@pe_cmpR _ _ _ _ _ _ _ _ op_in_seq (@pe_ix _ _ _ _ _ _ _ ix_LT (pv 0) (@pe_int _ _ _ _) (fun _ _ => rfl)) (@pe_tup _ _ _ _ _ (@pa_cons _ _ _ _ _ (@pe_str _ _ _ _) (@pa_cons _ _ _ _ _ (@pe_str _ _ _ _) (@pa_nil _) (by rfl)) (by rfl))) (by with_unfolding_all rfl)) (@pe_and _ _ _ _ _ _ _ (@pe_callO _ _ _ _ _ _ _ _ _ _ o_is_pair hr rfl (@pa_cons _ _ _ _ _ (@pe_ix _ _ _ _ _ _ _ ix_LT (pv 0) (@pe_int _ _ _ _) (fun _ _ => rfl)) (@pa_cons _ _ _ _ _ (@pe_ix _ _ _ _ _ _ _ ix_LT (pv 0) (@pe_int _ _ _ _) (fun _ _ => rfl)) (@pa_nil _) (by rfl)) (by rfl)) (by decide) (by rfl) (by rfl)) (@pe_one _ _ _ _ _ (@pe_callO _ _ _ _ _ _ _ _ _ _ o_is_fraction hr rfl (@pa_cons _ _ _ _ _ (@pe_ix _ _ _ _ _ _ _ ix_LT (pv 0) (@pe_int _ _ _ _) (fun _ _ => rfl)) (@pa_nil _) (by rfl)) (by decide) (by rfl) (by rfl))))))) (@pss_nil _)) (@pss_cons _ _ _ _ _ (@ps_if _ _ _ _ _ _ _ _ (@pt_cmpR _ _ _ _ _ _ _ _ (op_eqA hr.units) (@pe_ix _ _ _ _ _ _ _ ix_LT (pv 0) (@pe_int _ _ _ _) (fun _ _ => rfl)) (@pe_str _ _ _ _) (nomark _)) (@pss_one _ _ _ (@ps_ret _ _ _ _ (@pe_and _ _ _ _ _ _ _ (@pe_callO _ _ _ _ _ _ _ _ _ _ o_is_post hr rfl (@pa_cons _ _ _ _ _ (@pe_ix _ _ _ _ _ _ _ ix_LT (pv 0) (@pe_int _ _ _ _) (fun _ _ => rfl)) (@pa_nil _) (by rfl)) (by decide) (by rfl) (by rfl)) (@pe_one _ _ _ _ _ (@pe_callO _ _ _ _ _ _ _ _ _ _ o_is_moment hr rfl (@pa_cons _ _ _ _ _ (@pe_ix _ _ _ _ _ _ _ ix_LT (pv 0) (@pe_int _ _ _ _) (fun _ _ => rfl)) (@pa_nil _) (by rfl)) (by decide) (by rfl) (by rfl)))))) (@pss_nil _)) (@pss_one _ _ _ (@ps_ret _ _ _ _ (@pe_and _ _ _ _ _ _ _ (@pe_cmpR _ _ _ _ _ _ _ _ (op_eqA hr.units) (@pe_ix _ _ _ _ _ _ _ ix_LT (pv 0) (@pe_int _ _ _ _) (fun _ _ => rfl)) (@pe_str _ _ _ _) (nomark _)) (@pe_one _ _ _ _ _ (@pe_callO _ _ _ _ _ _ _ _ _ _ o_is_pair hr rfl (@pa_cons _ _ _ _ _ (@pe_ix _ _ _ _ _ _ _ ix_LT (pv 0) (@pe_int _ _ _ _) (fun _ _ => rfl)) (@pa_cons _ _ _ _ _ (@pe_ix _ _ _ _ _ _ _ ix_LT (pv 0) (@pe_int _ _ _ _) (fun _ _ => rfl)) (@pa_nil _) (by rfl)) (by rfl)) (by decide) (by rfl) (by rfl))))))))),?_⟩
    cases h with
    | nt h =>
      obtain ⟨t,ty,e⟩:=h
      walk_at "go"
      refine r_isTy ty e ?_
      walk_at "go"
      exact q _ (Same.refl _)
    | @len p xs h n3 n4 =>
      walk_at "go"
      refine r_isTy (.tup h) kit_tuple_tuple ?_
      walk_at "go"
      refine r_tupK fun c0 g0 => ?_
      have h':=upd_old (o:=.tup [.int 3,.int 4]) g0 h
      have s0:Same H (upd H c0 (.tup [.int 3,.int 4])):=Same.new g0
      have hc0:=upd_same (H:=H) (a:=c0) (o:=.tup [.int 3,.int 4])
      generalize upd H c0 (.tup [.int 3,.int 4]) = H0 at h' s0 hc0 ⊢
      walk_at "go"
      refine r_nin34 hc0 (b:=true) (by rw [decide_eq_false (show ¬ (xs.length:Int) = 3 by omega),decide_eq_false (show ¬ (xs.length:Int) = 4 by omega)]; rfl) ?_
      walk_at "go"
      exact q _ s0
    | @no3 p u x t h hu =>
      walk_at "go"
      refine r_isTy (.tup h) kit_tuple_tuple ?_
      walk_at "go"
      refine r_tupK fun c0 g0 => ?_
      have h':=upd_old (o:=.tup [.int 3,.int 4]) g0 h
      have s0:Same H (upd H c0 (.tup [.int 3,.int 4])):=Same.new g0
      have hc0:=upd_same (H:=H) (a:=c0) (o:=.tup [.int 3,.int 4])
      generalize upd H c0 (.tup [.int 3,.int 4]) = H0 at h' s0 hc0 ⊢
      walk_at "go"
      refine r_nin34 (n:=((3:Nat):Int)) hc0 (b:=false) (by decide) ?_
      walk_at "go"
      obtain ⟨ty',ty,e⟩:=hu.sm s0
      refine r_isTy ty e ?_
      walk_at "go"
      exact q _ s0
    | @four p k' x y t h h1' h2' =>
      walk_at "go"
      refine r_isTy (.tup h) kit_tuple_tuple ?_
      walk_at "go"
      refine r_tupK fun c0 g0 => ?_
      have h':=upd_old (o:=.tup [.int 3,.int 4]) g0 h
      have s0:Same H (upd H c0 (.tup [.int 3,.int 4])):=Same.new g0
      have hc0:=upd_same (H:=H) (a:=c0) (o:=.tup [.int 3,.int 4])
      generalize upd H c0 (.tup [.int 3,.int 4]) = H0 at h' s0 hc0 ⊢
      walk_at "go"
      refine r_nin34 (n:=((4:Nat):Int)) hc0 (b:=false) (by decide) ?_
      walk_at "go"
      refine r_isTy (.str _) kit_str_str ?_
      walk_at "go"
      refine i_d (fun _ => ?_) (fun c => absurd (show (((4:Nat):Int) = 4) by decide) c)
      walk_at "go"
      refine r_tupK fun c1 g1 => ?_
      have h1:=upd_old (o:=.tup [.str "after",.str "within"]) g1 h'
      have s1:Same H (upd H0 c1 (.tup [.str "after",.str "within"])):=s0.trans (Same.new g1)
      have hc1:=upd_same (H:=H0) (a:=c1) (o:=.tup [.str "after",.str "within"])
      generalize upd H0 c1 (.tup [.str "after",.str "within"]) = H1 at h1 s1 hc1 ⊢
      walk_at "go"
      refine r_inT (ys:=["after","within"]) hc1 ?_
      walk_at "go"
      refine i_dF (by simp [h1',h2']) ?_
      walk_at "go"
      exact q _ s1
    | @nop p k' x y t h hk hp =>
      walk_at "go"
      refine r_isTy (.tup h) kit_tuple_tuple ?_
      walk_at "go"
      refine r_tupK fun c0 g0 => ?_
      have h':=upd_old (o:=.tup [.int 3,.int 4]) g0 h
      have s0:Same H (upd H c0 (.tup [.int 3,.int 4])):=Same.new g0
      have hc0:=upd_same (H:=H) (a:=c0) (o:=.tup [.int 3,.int 4])
      generalize upd H c0 (.tup [.int 3,.int 4]) = H0 at h' s0 hc0 ⊢
      walk_at "go"
      refine r_nin34 (n:=((4:Nat):Int)) hc0 (b:=false) (by decide) ?_
      walk_at "go"
      refine r_isTy (.str _) kit_str_str ?_
      walk_at "go"
      refine i_d (fun _ => ?_) (fun c => absurd (show (((4:Nat):Int) = 4) by decide) c)
      walk_at "go"
      refine r_tupK fun c1 g1 => ?_
      have h1:=upd_old (o:=.tup [.str "after",.str "within"]) g1 h'
      have s1:Same H (upd H0 c1 (.tup [.str "after",.str "within"])):=s0.trans (Same.new g1)
      have hc1:=upd_same (H:=H0) (a:=c1) (o:=.tup [.str "after",.str "within"])
      generalize upd H0 c1 (.tup [.str "after",.str "within"]) = H1 at h1 s1 hc1 ⊢
      walk_at "go"
      refine r_inT (ys:=["after","within"]) hc1 ?_
      walk_at "go"
      refine i_dT (by rcases hk with rfl | rfl <;> simp) ?_
      walk_at "go"
      refine ⟨_,_,false,rfl,hp.sm s1,fun H2 s2 => ?_⟩
      walk_at "go"
      exact q _ (s1.trans s2)
    | @frac p k' x y t b h hk hp ht =>
      walk_at "go"
      refine r_isTy (.tup h) kit_tuple_tuple ?_
      walk_at "go"
      refine r_tupK fun c0 g0 => ?_
      have h':=upd_old (o:=.tup [.int 3,.int 4]) g0 h
      have s0:Same H (upd H c0 (.tup [.int 3,.int 4])):=Same.new g0
      have hc0:=upd_same (H:=H) (a:=c0) (o:=.tup [.int 3,.int 4])
      generalize upd H c0 (.tup [.int 3,.int 4]) = H0 at h' s0 hc0 ⊢
      walk_at "go"
      refine r_nin34 (n:=((4:Nat):Int)) hc0 (b:=false) (by decide) ?_
      walk_at "go"
      refine r_isTy (.str _) kit_str_str ?_
      walk_at "go"
      refine i_d (fun _ => ?_) (fun c => absurd (show (((4:Nat):Int) = 4) by decide) c)
      walk_at "go"
      refine r_tupK fun c1 g1 => ?_
      have h1:=upd_old (o:=.tup [.str "after",.str "within"]) g1 h'
      have s1:Same H (upd H0 c1 (.tup [.str "after",.str "within"])):=s0.trans (Same.new g1)
      have hc1:=upd_same (H:=H0) (a:=c1) (o:=.tup [.str "after",.str "within"])
      generalize upd H0 c1 (.tup [.str "after",.str "within"]) = H1 at h1 s1 hc1 ⊢
      walk_at "go"
      refine r_inT (ys:=["after","within"]) hc1 ?_
      walk_at "go"
      refine i_dT (by rcases hk with rfl | rfl <;> simp) ?_
      walk_at "go"
      refine ⟨_,_,true,rfl,hp.sm s1,fun H2 s2 => ?_⟩
      have h2:=s2 _ _ h1
      walk_at "go"
      refine ⟨_,b,rfl,ht _ (s1.trans s2),?_⟩
      walk_at "go"
      exact q _ (s1.trans s2)
    | @frm0 p x t h hx =>
      walk_at "go"
      refine r_isTy (.tup h) kit_tuple_tuple ?_
      walk_at "go"
      refine r_tupK fun c0 g0 => ?_
      have h':=upd_old (o:=.tup [.int 3,.int 4]) g0 h
      have s0:Same H (upd H c0 (.tup [.int 3,.int 4])):=Same.new g0
      have hc0:=upd_same (H:=H) (a:=c0) (o:=.tup [.int 3,.int 4])
      generalize upd H c0 (.tup [.int 3,.int 4]) = H0 at h' s0 hc0 ⊢
      walk_at "go"
      refine r_nin34 (n:=((3:Nat):Int)) hc0 (b:=false) (by decide) ?_
      walk_at "go"
      refine r_isTy (.str _) kit_str_str ?_
      walk_at "go"
      refine i_d (fun c => absurd c (show ¬ (((3:Nat):Int) = 4) by decide)) (fun _ => ?_)
      walk_at "go"
      refine i_d (fun _ => ?_) (fun c => absurd rfl c)
      walk_at "go"
      refine ⟨_,false,rfl,hx.sm s0,fun H1 s1 => ?_⟩
      walk_at "go"
      exact q _ (s0.trans s1)
    | @frm p x t b h hx ht =>
      walk_at "go"
      refine r_isTy (.tup h) kit_tuple_tuple ?_
      walk_at "go"
      refine r_tupK fun c0 g0 => ?_
      have h':=upd_old (o:=.tup [.int 3,.int 4]) g0 h
      have s0:Same H (upd H c0 (.tup [.int 3,.int 4])):=Same.new g0
      have hc0:=upd_same (H:=H) (a:=c0) (o:=.tup [.int 3,.int 4])
      generalize upd H c0 (.tup [.int 3,.int 4]) = H0 at h' s0 hc0 ⊢
      walk_at "go"
      refine r_nin34 (n:=((3:Nat):Int)) hc0 (b:=false) (by decide) ?_
      walk_at "go"
      refine r_isTy (.str _) kit_str_str ?_
      walk_at "go"
      refine i_d (fun c => absurd c (show ¬ (((3:Nat):Int) = 4) by decide)) (fun _ => ?_)
      walk_at "go"
      refine i_d (fun _ => ?_) (fun c => absurd rfl c)
      walk_at "go"
      refine ⟨_,true,rfl,hx.sm s0,fun H1 s1 => ?_⟩
      have h1:=s1 _ _ h'
      walk_at "go"
      refine ⟨_,b,rfl,ht _ (s0.trans s1),?_⟩
      walk_at "go"
      exact q _ (s0.trans s1)
    | @wit0 p k' x y h h1' h2' =>
      walk_at "go"
      refine r_isTy (.tup h) kit_tuple_tuple ?_
      walk_at "go"
      refine r_tupK fun c0 g0 => ?_
      have h':=upd_old (o:=.tup [.int 3,.int 4]) g0 h
      have s0:Same H (upd H c0 (.tup [.int 3,.int 4])):=Same.new g0
      have hc0:=upd_same (H:=H) (a:=c0) (o:=.tup [.int 3,.int 4])
      generalize upd H c0 (.tup [.int 3,.int 4]) = H0 at h' s0 hc0 ⊢
      walk_at "go"
      refine r_nin34 (n:=((3:Nat):Int)) hc0 (b:=false) (by decide) ?_
      walk_at "go"
      refine r_isTy (.str _) kit_str_str ?_
      walk_at "go"
      refine i_d (fun c => absurd c (show ¬ (((3:Nat):Int) = 4) by decide)) (fun _ => ?_)
      walk_at "go"
      refine i_d (fun c => absurd c h1') (fun _ => ?_)
      walk_at "go"
      refine i_d (fun c => absurd c h2') (fun _ => ?_)
      walk_at "go"
      exact q _ s0
    | @wit p x y b h hp =>
      walk_at "go"
      refine r_isTy (.tup h) kit_tuple_tuple ?_
      walk_at "go"
      refine r_tupK fun c0 g0 => ?_
      have h':=upd_old (o:=.tup [.int 3,.int 4]) g0 h
      have s0:Same H (upd H c0 (.tup [.int 3,.int 4])):=Same.new g0
      have hc0:=upd_same (H:=H) (a:=c0) (o:=.tup [.int 3,.int 4])
      generalize upd H c0 (.tup [.int 3,.int 4]) = H0 at h' s0 hc0 ⊢
      walk_at "go"
      refine r_nin34 (n:=((3:Nat):Int)) hc0 (b:=false) (by decide) ?_
      walk_at "go"
      refine r_isTy (.str _) kit_str_str ?_
      walk_at "go"
      refine i_d (fun c => absurd c (show ¬ (((3:Nat):Int) = 4) by decide)) (fun _ => ?_)
      walk_at "go"
      refine i_d (fun c => absurd c (by decide +kernel)) (fun _ => ?_)
      walk_at "go"
      refine i_d (fun _ => ?_) (fun c => absurd rfl c)
      walk_at "go"
      refine ⟨_,_,b,rfl,hp.sm s0,fun H1 s1 => ?_⟩
      walk_at "go"
      exact q _ (s0.trans s1)
set_option maxHeartbeats 0 in
theorem ok_refuse_no_wishes (T:Bl mg) (d:Df K mg "refuse_no_wishes" s_refuse_no_wishes ["wishes"] ) (W:XmS mg xt x0 x1 x5 x6 x11) (R_NoWish:XrS K xt x0 x1 x5 x6 x11 x11 11) (o_is_wish:Okf P w K mg base k "is_wish" ["thing"] (spIsWish K)) (o_init:OkI P w K mg base k x11 ["self","at"] (spInitW x11)):OkfX P w K mg base (k + 1) "refuse_no_wishes" ["wishes"] [] (spRefuse52 K x11):=by
  refine OkfX.of d sc_refuse_no_wishes (fun vs H Q E h => ?_) (fun f cdv A outer s H vs Q E hr h => ?_)
  . obtain ⟨x,rfl,_⟩:=h
    rfl
  . obtain ⟨x,rfl,h⟩:=h
    refine ⟨_,(@pss_cons _ _ _ _ _ (@ps_if _ _ _ _ _ _ _ _ (@pt_not _ _ _ _ (@pt_val _ _ _ (@pe_callB _ _ _ _ _ _ _ _ _ (call_isTy (T:="list")) rfl T.z_isinstance bt_isinstance (@pa_cons _ _ _ _ _ (pv 0) (@pa_cons _ _ _ _ _ (@pe_bltn _ _ (v:=.ty "list") _ _ rfl T.z_list bt_list rfl (by decide) (by decide)) (@pa_nil _) (by rfl)) (by rfl)) (by decide) (by decide) (by rfl) (by rfl)) (by intro _; rfl))) (@pss_one _ _ _ (@ps_raiseN _ _ _ _ _ _ _ _ _ _ _ _ _ o_init hr raisesI rfl rfl rfl W.m_NoWish (@pa_cons _ _ _ _ _ (@pe_non _ _ _) (@pa_nil _) (by rfl)) (by decide) (by rfl) (by rfl))) (@pss_nil _)) (@pss_one _ _ _ (@ps_for _ _ _ _ _ _ _ _ PassesOwn.leaving rfl (@pi_enum _ _ _ _ _ _ _ _ rfl T.z_enumerate (@pa_cons _ _ _ _ _ (pv 0) (@pa_nil _) (by rfl)) (by rfl)) (@pg_tup _ _ _ _ _ (n:=2) rfl (@pgs_cons _ _ _ _ _ (@pg_name _ _ (i:=1) _ sc_refuse_no_wishes.nd rfl (by first | exact Or.inl rfl | exact Or.inr rfl) (by first | exact .inl rfl | exact .inr rfl | assumption)) (@pgs_cons _ _ _ _ _ (@pg_name _ _ (i:=2) _ sc_refuse_no_wishes.nd rfl (by first | exact Or.inl rfl | exact Or.inr rfl) (by first | exact .inl rfl | exact .inr rfl | assumption)) (@pgs_nil _) (by rfl)) (by rfl)) (by rfl) (by rfl)) (@pss_one _ _ _ (@ps_if _ _ _ _ _ _ _ _ (@pt_not _ _ _ _ (@pt_val _ _ _ (@pe_callO _ _ _ _ _ _ _ _ _ _ o_is_wish hr rfl (@pa_cons _ _ _ _ _ (pv 2) (@pa_nil _) (by rfl)) (by decide) (by rfl) (by rfl)) (by intro _; rfl))) (@pss_one _ _ _ (@ps_raiseN _ _ _ _ _ _ _ _ _ _ _ _ _ o_init hr raisesI rfl rfl rfl W.m_NoWish (@pa_cons _ _ _ _ _ (pv 1) (@pa_nil _) (by rfl)) (by decide) (by rfl) (by rfl))) (@pss_nil _))) (by intro _; rfl)))),?_⟩
    rcases h with ⟨⟨l,ws,rfl,⟨vs',hl,pvs⟩,hok,hlen⟩,q⟩ | ⟨v,hb,q⟩
    . walk_at "go"
      refine r_isTy (.lst hl) kit_list_list ?_
      walk_at "go"
      refine e_K hl ?_
      refine r_forE (xs:=vs') (fun i σ G => ∃ o1 o2,σ = [some (.ref l),o1,o2] /\ Same H G) ⟨_,_,rfl,Same.refl _⟩ ?_ ?_ ?_
      . rintro i σ G _ ⟨o1,o2,rfl,sG⟩
        exact SqL.of (sG _ _ hl)
      . rintro i x T0 σ G hx hT ⟨o1,o2,rfl,sG⟩
        obtain ⟨w',hw,qw⟩:=Paired.at pvs hx
        have s1:=sG.trans (Same.new (o:=.tup [.int i,x]) hT)
        have hT2:=upd_same (H:=G) (a:=T0) (o:=.tup [.int i,x])
        generalize upd G T0 (.tup [.int i,x]) = G1 at s1 hT2 ⊢
        walk_at "go"
        refine ⟨_,true,rfl,(qw.tk s1.tk).is (hok w' (List.mem_of_getElem? hw)),fun G2 s2 => ?_⟩
        walk_at "go"
        exact ⟨_,_,rfl,s1.trans s2⟩
      . rintro σ G ⟨o1,o2,rfl,sG⟩
        walk_at "go"
        exact q _ sG
    rcases hb with ⟨l,vs',i0,y0,rfl,hl,hn,hy0,hb,hg,rfl⟩ | ⟨⟨t,ty,et⟩,rfl⟩
    rotate_left
    . walk_at "go"
      refine r_isTy ty et ?_
      walk_at "go"
      refine r_raiseI ?_
      walk_at "go"
      refine ⟨by rw [sizeLine_eq]; exact (by decide:1 <= 16777216),fun z hz => ⟨z,.non,rfl,upd_same,.inl rfl,fun dx hd ne => ⟨rfl,some dx,upd_same,?_⟩⟩⟩
      obtain ⟨n1,n2⟩:=nw_same (H:=H) hz hd ne
      exact q dx _ n1 n2
    walk_at "go"
    refine r_isTy (.lst hl) kit_list_list ?_
    walk_at "go"
    refine e_K hl ?_
    refine r_forE (xs:=vs') (fun i σ G => ∃ o1 o2,σ = [some (.ref l),o1,o2] /\ Same H G /\ i <= i0) ⟨_,_,rfl,Same.refl _,Nat.zero_le _⟩ ?_ ?_ ?_
    . rintro i σ G _ ⟨o1,o2,rfl,sG,_⟩
      exact SqL.of (sG _ _ hl)
    . rintro i x T0 σ G hx hT ⟨o1,o2,rfl,sG,hi⟩
      have s1:=sG.trans (Same.new (o:=.tup [.int i,x]) hT)
      have hT2:=upd_same (H:=G) (a:=T0) (o:=.tup [.int i,x])
      generalize upd G T0 (.tup [.int i,x]) = G1 at s1 hT2 ⊢
      have hi3:i < vs'.length:=(List.getElem?_eq_some_iff.mp hx).1
      by_cases hlt:i < i0
      . walk_at "go"
        refine ⟨_,true,rfl,(hg i x hlt hx).sm s1,fun G2 s2 => ?_⟩
        walk_at "go"
        exact ⟨_,_,rfl,s1.trans s2,hlt⟩
      . obtain rfl:i = i0:=by omega
        rw [hx] at hy0
        cases hy0
        walk_at "go"
        refine ⟨_,false,rfl,hb.sm s1,fun G2 s2 => ?_⟩
        walk_at "go"
        refine r_raiseI ?_
        walk_at "go"
        refine ⟨by rw [sizeLine_eq]; exact (by decide:1 <= 16777216),fun z hz => ⟨z,.int (i:Int),rfl,upd_same,.inr ⟨i,rfl,by omega⟩,fun dx hd ne => ⟨rfl,some dx,upd_same,?_⟩⟩⟩
        obtain ⟨n1,n2⟩:=nw_same (H:=G2) hz hd ne
        exact q dx _ ((s1.trans s2).trans n1) n2
    . rintro σ G ⟨o1,o2,rfl,sG,hi⟩
      have:=(List.getElem?_eq_some_iff.mp hy0).1
      omega
theorem ok_steps_by (T:Bl mg) (d:Df K mg "steps_by" s_steps_by ["number","wish"]  ) (W:XmS mg xt x0 x1 x5 x6 x11) (R_NoWish:XrS K xt x0 x1 x5 x6 x11 x11 11):Okf P w K mg base (k + 1) "steps_by" ["number","wish"] spStepsBy:=by
  refine Okf.of d sc_steps_by (fun vs H Q E h => ?_) (fun f cdv A outer s H vs Q E hr h => ?_)
  . obtain ⟨k',v,w',rfl,_⟩:=h
    rfl
  . obtain ⟨k',v,w',rfl,h,q⟩:=h
    refine ⟨_,(@pss_cons _ _ _ _ _ (@ps_if _ _ _ _ _ _ _ _ (@pt_cmpR _ _ _ _ _ _ _ _ (op_eqA hr.units) (@pe_ix _ _ _ _ _ _ _ ix_LT (pv 1) (@pe_int _ _ _ _) (fun _ _ => rfl)) (@pe_str _ _ _ _) (nomark _)) (@pss_one _ _ _ (@ps_ret _ _ _ _ (@pe_lst _ _ _ _ (@pa_cons _ _ _ _ _ (@pe_tup _ _ _ _ _ (@pa_cons _ _ _ _ _ (@pe_ix _ _ _ _ _ _ _ ix_LT (pv 1) (@pe_int _ _ _ _) (fun _ _ => rfl)) (@pa_cons _ _ _ _ _ (@pe_ix _ _ _ _ _ _ _ ix_LT (pv 1) (@pe_int _ _ _ _) (fun _ _ => rfl)) (@pa_cons _ _ _ _ _ (@pe_ix _ _ _ _ _ _ _ ix_LT (pv 1) (@pe_int _ _ _ _) (fun _ _ => rfl)) (@pa_cons _ _ _ _ _ (pv 0) (@pa_nil _) (by rfl)) (by rfl)) (by rfl)) (by rfl))) (@pa_nil _) (by rfl))))) (@pss_nil _)) (@pss_cons _ _ _ _ _ (@ps_if _ _ _ _ _ _ _ _ (@pt_cmpR _ _ _ _ _ _ _ _ (op_eqA hr.units) (@pe_ix _ _ _ _ _ _ _ ix_LT (pv 1) (@pe_int _ _ _ _) (fun _ _ => rfl)) (@pe_str _ _ _ _) (nomark _)) (@pss_one _ _ _ (@ps_ret _ _ _ _ (@pe_lst _ _ _ _ (@pa_cons _ _ _ _ _ (@pe_tup _ _ _ _ _ (@pa_cons _ _ _ _ _ (@pe_ix _ _ _ _ _ _ _ ix_LT (pv 1) (@pe_int _ _ _ _) (fun _ _ => rfl)) (@pa_cons _ _ _ _ _ (@pe_ix _ _ _ _ _ _ _ ix_LT (pv 1) (@pe_int _ _ _ _) (fun _ _ => rfl)) (@pa_cons _ _ _ _ _ (@pe_tup _ _ _ _ _ (@pa_cons _ _ _ _ _ (@pe_un _ _ _ _ _ _ un_neg (@pe_ix _ _ _ _ _ _ _ ix_LT (@pe_ix _ _ _ _ _ _ _ ix_LT (pv 1) (@pe_int _ _ _ _) (fun _ _ => rfl)) (@pe_int _ _ _ _) (fun _ _ => rfl))) (@pa_cons _ _ _ _ _ (@pe_ix _ _ _ _ _ _ _ ix_LT (@pe_ix _ _ _ _ _ _ _ ix_LT (pv 1) (@pe_int _ _ _ _) (fun _ _ => rfl)) (@pe_int _ _ _ _) (fun _ _ => rfl)) (@pa_nil _) (by rfl)) (by rfl))) (@pa_cons _ _ _ _ _ (pv 0) (@pa_nil _) (by rfl)) (by rfl)) (by rfl)) (by rfl))) (@pa_nil _) (by rfl))))) (@pss_nil _)) (@pss_cons _ _ _ _ _ (@ps_if _ _ _ _ _ _ _ _ (@pt_cmpR _ _ _ _ _ _ _ _ (op_eqA hr.units) (@pe_ix _ _ _ _ _ _ _ ix_LT (pv 1) (@pe_int _ _ _ _) (fun _ _ => rfl)) (@pe_str _ _ _ _) (nomark _)) (@pss_one _ _ _ (@ps_ret _ _ _ _ (@pe_lst _ _ _ _ (@pa_cons _ _ _ _ _ (@pe_tup _ _ _ _ _ (@pa_cons _ _ _ _ _ (@pe_ix _ _ _ _ _ _ _ ix_LT (pv 1) (@pe_int _ _ _ _) (fun _ _ => rfl)) (@pa_cons _ _ _ _ _ (@pe_ix _ _ _ _ _ _ _ ix_LT (pv 1) (@pe_int _ _ _ _) (fun _ _ => rfl)) (@pa_cons _ _ _ _ _ (@pe_tup _ _ _ _ _ (@pa_cons _ _ _ _ _ (@pe_int _ _ _ _) (@pa_cons _ _ _ _ _ (@pe_int _ _ _ _) (@pa_nil _) (by rfl)) (by rfl))) (@pa_cons _ _ _ _ _ (pv 0) (@pa_nil _) (by rfl)) (by rfl)) (by rfl)) (by rfl))) (@pa_cons _ _ _ _ _ (@pe_tup _ _ _ _ _ (@pa_cons _ _ _ _ _ (@pe_ix _ _ _ _ _ _ _ ix_LT (pv 1) (@pe_int _ _ _ _) (fun _ _ => rfl)) (@pa_cons _ _ _ _ _ (@pe_ix _ _ _ _ _ _ _ ix_LT (pv 1) (@pe_int _ _ _ _) (fun _ _ => rfl)) (@pa_cons _ _ _ _ _ (@pe_tup _ _ _ _ _ (@pa_cons _ _ _ _ _ (@pe_int _ _ _ _) (@pa_cons _ _ _ _ _ (@pe_int _ _ _ _) (@pa_nil _) (by rfl)) (by rfl))) (@pa_cons _ _ _ _ _ (pv 0) (@pa_nil _) (by rfl)) (by rfl)) (by rfl)) (by rfl))) (@pa_nil _) (by rfl)) (by rfl))))) (@pss_nil _)) (@pss_one _ _ _ (@ps_ret _ _ _ _ (@pe_lst _ _ _ _ (@pa_nil _))))))),?_⟩
    have fresh:∀ {H1:Hp} {l:Addr},Same H H1 -> H1 l = none -> H l = none:=fun s h => s.free h
    cases w' with
    | after z u r =>
      obtain ⟨p,t,rfl,h,f⟩:=h
      walk_at "go"
      refine i_d (fun _ => ?_) (fun c => absurd rfl c)
      walk_at "go"
      refine r_tupK fun a1 g1 => ?_
      walk_at "go"
      refine r_lstK fun l g2 => ?_
      walk_at "go"
      have s1:=(Same.new (o:=.tup [.str z,.str u,t,.int k']) g1).trans (Same.new (o:=.lst [.ref a1]) g2)
      exact q l _ (fresh (Same.new g1) g2) s1 ⟨_,upd_same,.cons ⟨a1,t,rfl,upd_old g2 upd_same,f.tk s1.tk⟩ .nil⟩
    | within z u r =>
      obtain ⟨p,t,rfl,h,pt,rfl,hpt⟩:=h
      walk_at "go"
      refine i_d (fun c => absurd c (by decide +kernel)) (fun _ => ?_)
      walk_at "go"
      refine i_d (fun _ => ?_) (fun c => absurd rfl c)
      walk_at "go"
      refine r_tupK fun a0 g0 => ?_
      walk_at "go"
      refine r_tupK fun a1 g1 => ?_
      walk_at "go"
      refine r_lstK fun l g2 => ?_
      walk_at "go"
      have s0:=Same.new (o:=.tup [.int (-r.num),.int r.den]) g0
      have s1:=s0.trans (Same.new (o:=.tup [.str u,.str z,.ref a0,.int k']) g1)
      exact q l _ (fresh s1 g2) (s1.trans (Same.new g2)) ⟨_,upd_same,.cons ⟨a1,_,rfl,upd_old g2 upd_same,fr_neg (upd_old g2 (upd_old g1 upd_same))⟩ .nil⟩
    | wit z u =>
      obtain ⟨p,rfl,h⟩:=h
      walk_at "go"
      refine i_d (fun c => absurd c (by decide +kernel)) (fun _ => ?_)
      walk_at "go"
      refine i_d (fun c => absurd c (by decide +kernel)) (fun _ => ?_)
      walk_at "go"
      refine i_d (fun _ => ?_) (fun c => absurd rfl c)
      walk_at "go"
      refine r_tupK fun a0 g0 => ?_
      walk_at "go"
      refine r_tupK fun a1 g1 => ?_
      walk_at "go"
      refine r_tupK fun a2 g2 => ?_
      walk_at "go"
      refine r_tupK fun a3 g3 => ?_
      walk_at "go"
      refine r_lstK fun l g4 => ?_
      walk_at "go"
      have s0:=Same.new (o:=.tup [.int 0,.int 1]) g0
      have s1:=s0.trans (Same.new (o:=.tup [.str z,.str u,.ref a0,.int k']) g1)
      have s2:=s1.trans (Same.new (o:=.tup [.int 0,.int 1]) g2)
      have s3:=s2.trans (Same.new (o:=.tup [.str u,.str z,.ref a2,.int k']) g3)
      exact q l _ (fresh s3 g4) (s3.trans (Same.new g4)) ⟨_,upd_same,.cons ⟨a1,_,rfl,upd_old g4 (upd_old g3 (upd_old g2 upd_same)),fr_zero (upd_old g4 (upd_old g3 (upd_old g2 (upd_old g1 upd_same))))⟩ (.cons ⟨a3,_,rfl,upd_old g4 upd_same,fr_zero (upd_old g4 (upd_old g3 upd_same))⟩ .nil)⟩
    | frm z r =>
      obtain ⟨p,t,rfl,h,f⟩:=h
      walk_at "go"
      refine i_d (fun c => absurd c (by decide +kernel)) (fun _ => ?_)
      walk_at "go"
      refine i_d (fun c => absurd c (by decide +kernel)) (fun _ => ?_)
      walk_at "go"
      refine i_d (fun c => absurd c (by decide +kernel)) (fun _ => ?_)
      walk_at "go"
      refine r_lstK fun l g4 => ?_
      walk_at "go"
      exact q l _ g4 (Same.new g4) ⟨_,upd_same,.nil⟩
set_option maxHeartbeats 0 in
theorem ok_steps_of (T:Bl mg) (d:Df K mg "steps_of" s_steps_of ["wishes"] ) (W:XmS mg xt x0 x1 x5 x6 x11) (R_NoWish:XrS K xt x0 x1 x5 x6 x11 x11 11) (o_steps_by:Okf P w K mg base k "steps_by" ["number","wish"] spStepsBy) (o_refuse_no_wishes:OkfX P w K mg base k "refuse_no_wishes" ["wishes"] [] (spRefuse52 K x11)):OkfX P w K mg base (k + 1) "steps_of" ["wishes"] [] (spStepsOf52 K x11):=by
  refine OkfX.of d sc_steps_of (fun vs H Q E h => ?_) (fun f cdv A outer s H vs Q E hr h => ?_)
  . obtain ⟨x,rfl,_⟩:=h
    rfl
  . obtain ⟨x,rfl,h⟩:=h
    refine ⟨_,(@pss_cons _ _ _ _ _ (@ps_expr _ _ _ _ (@pe_callX _ _ _ _ _ _ _ _ _ _ _ _ o_refuse_no_wishes hr rfl passX (@pa_cons _ _ _ _ _ (pv 0) (@pa_nil _) (by rfl)) (by decide) (by rfl) (by rfl)) (by rfl)) (@pss_cons _ _ _ _ _ (@ps_set _ _ (i:=1) _ _ _ _ sc_steps_of.nd rfl (by first | exact Or.inl rfl | exact Or.inr rfl) (@pe_lst _ _ _ _ (@pa_nil _)) (by rfl) (by first | exact .inl rfl | exact .inr rfl | assumption)) (@pss_cons _ _ _ _ _ (@PS.nox _ _ _ (@ps_for _ _ _ _ _ _ _ _ PassesOwn.never rfl (@pi_enum _ _ _ _ _ _ _ _ rfl T.z_enumerate (@pa_cons _ _ _ _ _ (pv 0) (@pa_nil _) (by rfl)) (by rfl)) (@pg_tup _ _ _ _ _ (n:=2) rfl (@pgs_cons _ _ _ _ _ (@pg_name _ _ (i:=2) _ sc_steps_of.nd rfl (by first | exact Or.inl rfl | exact Or.inr rfl) (by first | exact .inl rfl | exact .inr rfl | assumption)) (@pgs_cons _ _ _ _ _ (@pg_name _ _ (i:=3) _ sc_steps_of.nd rfl (by first | exact Or.inl rfl | exact Or.inr rfl) (by first | exact .inl rfl | exact .inr rfl | assumption)) (@pgs_nil _) (by rfl)) (by rfl)) (by rfl) (by rfl)) (@pss_one _ _ _ (@ps_expr _ _ _ _ (@pe_bm _ _ _ _ _ _ _ _ _ _ _ _ PySem.F.plainAttrs_list PySem.F.slot_list_extend PySem.F.type_list_extend mt_extend (pv 1) (@pa_cons _ _ _ _ _ (@pe_callO _ _ _ _ _ _ _ _ _ _ o_steps_by hr rfl (@pa_cons _ _ _ _ _ (pv 2) (@pa_cons _ _ _ _ _ (pv 3) (@pa_nil _) (by rfl)) (by rfl)) (by decide) (by rfl) (by rfl)) (@pa_nil _) (by rfl)) (by rfl) (by rfl) (by rfl) (by rfl) (by rfl)) (by rfl))) (by intro _; rfl))) (@pss_one _ _ _ (@ps_ret _ _ _ _ (pv 1)))))),?_⟩
    rcases h with ⟨l,ws,rfl,hws,hok,hlen,q⟩ | ⟨v,hb,q⟩
    rotate_left
    . walk_at "go"
      exact ⟨_,rfl,.inr ⟨v,hb,q⟩⟩
    walk_at "go"
    refine ⟨_,rfl,.inl ⟨⟨l,ws,rfl,hws,hok,hlen⟩,fun H1 s1 => ?_⟩⟩
    walk_at "go"
    refine r_lstK fun ls gs => ?_
    walk_at "go"
    obtain ⟨vs',hl,pvs⟩:=hws
    have hvl:vs'.length = ws.length:=Paired.length pvs
    have s2:=s1.trans (Same.new (o:=.lst []) gs)
    refine e_K (s2 _ _ hl) ?_
    refine r_forE (xs:=vs') (fun i σ G => ∃ o1 o2,σ = [some (.ref l),some (.ref ls),o1,o2] /\ Kp ls H1 G /\ LQ StepQ G ls (stepsOf (ws.take i))) ⟨_,_,rfl,Kp.new gs,⟨_,upd_same,.nil⟩⟩ ?_ ?_ ?_
    . rintro i σ G _ ⟨o1,o2,rfl,kG,_⟩
      exact SqL.of (kG _ _ (ne_of_none (s1 _ _ hl) gs) (s1 _ _ hl))
    . rintro i x T0 σ G hx hT ⟨o1,o2,rfl,kG,zs,hz,pz⟩
      obtain ⟨w',hw,qw⟩:=Paired.at pvs hx
      have sG:Same H G:=kG.sm s1 (s1.free gs)
      have sT:=Same.new (H:=G) (o:=.tup [.int i,x]) hT
      have hT2:=upd_same (H:=G) (a:=T0) (o:=.tup [.int i,x])
      have nT:T0 ≠ ls:=Ne.symm (ne_of_none hz hT)
      generalize upd G T0 (.tup [.int i,x]) = G1 at sT hT2 ⊢
      have hz1:=sT _ _ hz
      walk_at "go"
      refine ⟨i,x,w',rfl,qw.tk (sG.trans sT).tk,fun lb G2 hb sb ⟨zb,hzb,pzb⟩ => ?_⟩
      have hz2:=sb _ _ (sT _ _ hz)
      have l1:zs.length <= 600:=by
        rw [Paired.length pz]
        have h1:=steps_len (ws.take i)
        have h2:(ws.take i).length <= ws.length:=by rw [List.length_take]; omega
        omega
      have l2:zb.length <= 2:=by
        rw [Paired.length pzb]
        exact stepsBy_len i w'
      walk_at "go"
      refine r_ext hz2 hzb (by omega) ?_
      walk_at "go"
      have tk3:TK G (upd G2 ls (.lst (zs ++ zb))):=(sT.trans sb).tk.trans (TK.lst hz2)
      have tk4:TK G2 (upd G2 ls (.lst (zs ++ zb))):=TK.lst hz2
      refine ⟨_,_,rfl,(kG.trans (sT.trans sb).kp).trans Kp.upd,⟨_,upd_same,?_⟩⟩
      rw [steps_take hw]
      exact pd_app (Pd.imp pz fun v b h => h.tk tk3) (Pd.imp pzb fun v b h => h.tk tk4)
    . rintro σ G ⟨o1,o2,rfl,kG,hq⟩
      rw [hvl,List.take_length] at hq
      walk_at "go"
      exact q ls G (s1.free gs) (kG.sm s1 (s1.free gs)) hq
set_option maxHeartbeats 0 in
theorem ok_played_at (T:Bl mg) (d:Df K mg "played_at" s_played_at ["wishes"] ) (W:XmS mg xt x0 x1 x5 x6 x11) (R_NoWish:XrS K xt x0 x1 x5 x6 x11 x11 11) (o_steps_of:OkfX P w K mg base k "steps_of" ["wishes"] [] (spStepsOf52 K x11)):OkfX P w K mg base (k + 1) "played_at" ["wishes"] [] (spPlayed52 K x11):=by
  refine OkfX.of d sc_played_at (fun vs H Q E h => ?_) (fun f cdv A outer s H vs Q E hr h => ?_)
  . obtain ⟨x,v,rfl,_⟩:=h
    rfl
  . obtain ⟨x,v,rfl,hb,q⟩:=h
    refine ⟨_,(@pss_cons _ _ _ _ _ (@ps_set _ _ (i:=1) _ _ _ _ sc_played_at.nd rfl (by first | exact Or.inl rfl | exact Or.inr rfl) (@pe_callX _ _ _ _ _ _ _ _ _ _ _ _ o_steps_of hr rfl passX (@pa_cons _ _ _ _ _ (pv 0) (@pa_nil _) (by rfl)) (by decide) (by rfl) (by rfl)) (by rfl) (by first | exact .inl rfl | exact .inr rfl | assumption)) (@pss_cons _ _ _ _ _ (@ps_never _ _) (@pss_cons _ _ _ _ _ (@ps_never _ _) (@pss_cons _ _ _ _ _ (@ps_never _ _) (@pss_cons _ _ _ _ _ (@ps_never _ _) (@pss_cons _ _ _ _ _ (@ps_never _ _) (@pss_cons _ _ _ _ _ (@ps_never _ _) (@pss_one _ _ _ (@ps_never _ _))))))))),?_⟩
    walk_at "go"
    exact ⟨_,rfl,.inr ⟨v,hb,q⟩⟩
theorem ok_cell_at (T:Bl mg) (d:Df K mg "_law_cell_at" s_cell_at ["_law_script","_law_k"]  ) (W:XmS mg xt x0 x1 x5 x6 x11) (R_NoWish:XrS K xt x0 x1 x5 x6 x11 x11 11):Okf P w K mg base (k + 1) "_law_cell_at" ["_law_script","_law_k"] (spCell K):=by
  refine Okf.of d sc_cell_at (fun vs H Q E h => ?_) (fun f cdv A outer s H vs Q E hr h => ?_)
  . obtain ⟨a,ns,k',rfl,_⟩:=h
    rfl
  . obtain ⟨a,ns,k',rfl,hS,h0,q⟩:=h
    refine ⟨_,(@pss_cons _ _ _ _ _ (@ps_if _ _ _ _ _ _ _ _ (@pt_cmpR _ _ _ _ _ _ _ _ op_lt (pv 1) (@pe_callB _ _ _ _ _ _ _ _ _ c_len rfl T.z_len bt_len (@pa_cons _ _ _ _ _ (pv 0) (@pa_nil _) (by rfl)) (by decide) (by decide) (by rfl) (by rfl)) (nomark _)) (@pss_one _ _ _ (@ps_ret _ _ _ _ (@pe_ix _ _ _ _ _ _ _ ix_LT (pv 0) (pv 1) (fun _ _ => rfl)))) (@pss_nil _)) (@pss_one _ _ _ (@ps_ret _ _ _ _ (@pe_int _ _ _ _)))),?_⟩
    walk_at "go"
    refine r_lenL hS ?_
    walk_at "go"
    refine i_d (fun c => ?_) (fun c => ?_)
    . rw [List.length_map] at c
      obtain ⟨z,_,hz⟩:=pick (ns:=ns) h0 c
      walk_at "go"
      refine r_ixs hS hz ?_
      walk_at "go"
      exact q z
    . walk_at "go"
      exact q 0
set_option maxHeartbeats 0 in
theorem ok_number (T:Bl mg) (d:Df K mg "_law_number" s_number ["_law_script","_law_k"]  ) (W:XmS mg xt x0 x1 x5 x6 x11) (R_NoWish:XrS K xt x0 x1 x5 x6 x11 x11 11) (o_cell_at:Okf P w K mg base k "_law_cell_at" ["_law_script","_law_k"] (spCell K)):Okf P w K mg base (k + 1) "_law_number" ["_law_script","_law_k"] (spNumW K):=by
  refine Okf.of d sc_number (fun vs H Q E h => ?_) (fun f cdv A outer s H vs Q E hr h => ?_)
  . obtain ⟨a,ns,k',rfl,_⟩:=h
    rfl
  . obtain ⟨a,ns,k',rfl,hS,h0,hk,q⟩:=h
    refine ⟨_,(@pss_cons _ _ _ _ _ (@ps_set _ _ (i:=2) _ _ _ _ sc_number.nd rfl (by first | exact Or.inl rfl | exact Or.inr rfl) (@pe_callO _ _ _ _ _ _ _ _ _ _ o_cell_at hr rfl (@pa_cons _ _ _ _ _ (pv 0) (@pa_cons _ _ _ _ _ (pv 1) (@pa_nil _) (by rfl)) (by rfl)) (by decide) (by rfl) (by rfl)) (by rfl) (by first | exact .inl rfl | exact .inr rfl | assumption)) (@pss_cons _ _ _ _ _ (@ps_if _ _ _ _ _ _ _ _ (@PW.pt _ _ _ (@pw_and _ _ _ _ _ _ _ (@pt_cmpR _ _ _ _ _ _ _ _ (op_eqA hr.units) (@pe_op _ _ _ _ _ _ _ _ op_mod (@pe_callO _ _ _ _ _ _ _ _ _ _ o_cell_at hr rfl (@pa_cons _ _ _ _ _ (pv 0) (@pa_cons _ _ _ _ _ (@pe_int _ _ _ _) (@pa_nil _) (by rfl)) (by rfl)) (by decide) (by rfl) (by rfl)) (@pe_int _ _ _ _)) (@pe_int _ _ _ _) (nomark _)) (@pw_and1 _ _ _ _ (@pt_cmpR _ _ _ _ _ _ _ _ op_ge (pv 2) (@pe_op _ _ _ _ _ _ _ _ op_pow (@pe_int _ _ _ _) (@pe_int _ _ _ _)) (nomark _))))) (@pss_one _ _ _ (@ps_ret _ _ _ _ (pv 2))) (@pss_nil _)) (@pss_cons _ _ _ _ _ (@ps_set _ _ (i:=3) _ _ _ _ sc_number.nd rfl (by first | exact Or.inl rfl | exact Or.inr rfl) (@pe_op _ _ _ _ _ _ _ _ op_mod (@pe_op _ _ _ _ _ _ _ _ op_mulB (@pe_op _ _ _ _ _ _ _ _ op_addA (@pe_op _ _ _ _ _ _ _ _ op_addA (@pe_op _ _ _ _ _ _ _ _ op_mod (pv 2) (@pe_int _ _ _ _)) (@pe_op _ _ _ _ _ _ _ _ op_mulB (@pe_op _ _ _ _ _ _ _ _ op_mulB (@pe_int _ _ _ _) (pv 1)) (pv 1))) (@pe_int _ _ _ _)) (@pe_int _ _ _ _)) (@pe_int _ _ _ _)) (by rfl) (by first | exact .inl rfl | exact .inr rfl | assumption)) (@pss_cons _ _ _ _ _ (@ps_set _ _ (i:=4) _ _ _ _ sc_number.nd rfl (by first | exact Or.inl rfl | exact Or.inr rfl) (@pe_op _ _ _ _ _ _ _ _ op_mod (@pe_op _ _ _ _ _ _ _ _ op_mulB (pv 3) (@pe_op _ _ _ _ _ _ _ _ op_addA (@pe_op _ _ _ _ _ _ _ _ op_mod (pv 3) (@pe_int _ _ _ _)) (@pe_int _ _ _ _))) (@pe_int _ _ _ _)) (by rfl) (by first | exact .inl rfl | exact .inr rfl | assumption)) (@pss_cons _ _ _ _ _ (@ps_set _ _ (i:=5) _ _ _ _ sc_number.nd rfl (by first | exact Or.inl rfl | exact Or.inr rfl) (@pe_op _ _ _ _ _ _ _ _ op_mod (@pe_op _ _ _ _ _ _ _ _ op_mulB (@pe_op _ _ _ _ _ _ _ _ op_addA (pv 4) (@pe_op _ _ _ _ _ _ _ _ op_mulB (@pe_op _ _ _ _ _ _ _ _ op_mulB (@pe_int _ _ _ _) (pv 1)) (pv 1))) (@pe_op _ _ _ _ _ _ _ _ op_addA (@pe_op _ _ _ _ _ _ _ _ op_mod (pv 3) (@pe_int _ _ _ _)) (@pe_int _ _ _ _))) (@pe_int _ _ _ _)) (by rfl) (by first | exact .inl rfl | exact .inr rfl | assumption)) (@pss_cons _ _ _ _ _ (@ps_set _ _ (i:=6) _ _ _ _ sc_number.nd rfl (by first | exact Or.inl rfl | exact Or.inr rfl) (@pe_op _ _ _ _ _ _ _ _ op_addA (@pe_op _ _ _ _ _ _ _ _ op_mulB (@pe_op _ _ _ _ _ _ _ _ op_addA (@pe_op _ _ _ _ _ _ _ _ op_mulB (pv 3) (@pe_int _ _ _ _)) (pv 4)) (@pe_int _ _ _ _)) (pv 5)) (by rfl) (by first | exact .inl rfl | exact .inr rfl | assumption)) (@pss_cons _ _ _ _ _ (@ps_if _ _ _ _ _ _ _ _ (@pt_cmpR _ _ _ _ _ _ _ _ (op_eqA hr.units) (@pe_op _ _ _ _ _ _ _ _ op_mod (@pe_callO _ _ _ _ _ _ _ _ _ _ o_cell_at hr rfl (@pa_cons _ _ _ _ _ (pv 0) (@pa_cons _ _ _ _ _ (@pe_int _ _ _ _) (@pa_nil _) (by rfl)) (by rfl)) (by decide) (by rfl) (by rfl)) (@pe_int _ _ _ _)) (@pe_int _ _ _ _) (nomark _)) (@pss_one _ _ _ (@ps_ret _ _ _ _ (@pe_op _ _ _ _ _ _ _ _ op_addA (@pe_op _ _ _ _ _ _ _ _ op_mulB (pv 6) (@pe_op _ _ _ _ _ _ _ _ op_pow (@pe_int _ _ _ _) (@pe_int _ _ _ _))) (@pe_op _ _ _ _ _ _ _ _ op_mod (pv 2) (@pe_op _ _ _ _ _ _ _ _ op_pow (@pe_int _ _ _ _) (@pe_int _ _ _ _)))))) (@pss_nil _)) (@pss_one _ _ _ (@ps_ret _ _ _ _ (pv 6)))))))))),?_⟩
    walk_at "go"
    refine ⟨a,ns,k',rfl,hS,h0,fun c => ?_⟩
    walk_at "go"
    refine ⟨a,ns,0,rfl,hS,Int.le_refl 0,fun c0 => ?_⟩
    walk_at "go"
    refine i_d (fun e1 => ?_) (fun e1 => ?_)
    . walk_at "go"
      refine i_d (fun e2 => ?_) (fun e2 => ?_)
      . walk_at "go"
        exact q _ (by omega)
      . walk_at "go"
        refine ⟨a,ns,0,rfl,hS,Int.le_refl 0,fun c1 => ?_⟩
        walk_at "go"
        have hone:∀ z:Int,0 <= z % 2147483629:=fun z => Int.emod_nonneg z (by decide)
        have htwo:∀ z:Int,0 <= z % 2147483587:=fun z => Int.emod_nonneg z (by decide)
        have hthr:∀ z:Int,0 <= z % 2147483543:=fun z => Int.emod_nonneg z (by decide)
        have h1:=hone ((c % 2147483647 + 7919 * k' * k' + 11) * 69621)
        generalize (c % 2147483647 + 7919 * k' * k' + 11) * 69621 % 2147483629 = one at h1 ⊢
        have h2:=htwo (one * (one % 65521 + 48271))
        generalize one * (one % 65521 + 48271) % 2147483587 = two at h2 ⊢
        have h3:=hthr ((two + 40692 * k' * k') * (one % 7919 + 39373))
        generalize (two + 40692 * k' * k') * (one % 7919 + 39373) % 2147483543 = thr at h3 ⊢
        refine i_d (fun e3 => ?_) (fun e3 => ?_)
        . walk_at "go"
          exact q _ (nn_b (nn_a h1 h2 h3))
        . walk_at "go"
          exact q _ (nn_a h1 h2 h3)
    . walk_at "go"
      refine ⟨a,ns,0,rfl,hS,Int.le_refl 0,fun c1 => ?_⟩
      walk_at "go"
      have hone:∀ z:Int,0 <= z % 2147483629:=fun z => Int.emod_nonneg z (by decide)
      have htwo:∀ z:Int,0 <= z % 2147483587:=fun z => Int.emod_nonneg z (by decide)
      have hthr:∀ z:Int,0 <= z % 2147483543:=fun z => Int.emod_nonneg z (by decide)
      have h1:=hone ((c % 2147483647 + 7919 * k' * k' + 11) * 69621)
      generalize (c % 2147483647 + 7919 * k' * k' + 11) * 69621 % 2147483629 = one at h1 ⊢
      have h2:=htwo (one * (one % 65521 + 48271))
      generalize one * (one % 65521 + 48271) % 2147483587 = two at h2 ⊢
      have h3:=hthr ((two + 40692 * k' * k') * (one % 7919 + 39373))
      generalize (two + 40692 * k' * k') * (one % 7919 + 39373) % 2147483543 = thr at h3 ⊢
      refine i_d (fun e3 => ?_) (fun e3 => ?_)
      . walk_at "go"
        exact q _ (nn_b (nn_a h1 h2 h3))
      . walk_at "go"
        exact q _ (nn_a h1 h2 h3)
theorem ok_lowest (T:Bl mg) (d:Df K mg "_law_lowest" s_lowest ["_law_top","_law_bottom"]  ) (W:XmS mg xt x0 x1 x5 x6 x11) (R_NoWish:XrS K xt x0 x1 x5 x6 x11 x11 11):Okf P w K mg base (k + 1) "_law_lowest" ["_law_top","_law_bottom"] spLowest:=by
  refine Okf.of d sc_lowest (fun vs H Q E h => ?_) (fun f cdv A outer s H vs Q E hr h => ?_)
  . obtain ⟨t,b,rfl,_⟩:=h
    rfl
  . obtain ⟨t,b,rfl,hb,hs1,hs2,q⟩:=h
    refine ⟨_,(@pss_cons _ _ _ _ _ (@ps_set _ _ (i:=2) _ _ _ _ sc_lowest.nd rfl (by first | exact Or.inl rfl | exact Or.inr rfl) (@pe_callB _ _ _ _ _ _ _ _ _ c_abs rfl T.z_abs bt_abs (@pa_cons _ _ _ _ _ (pv 0) (@pa_nil _) (by rfl)) (by decide) (by decide) (by rfl) (by rfl)) (by rfl) (by first | exact .inl rfl | exact .inr rfl | assumption)) (@pss_cons _ _ _ _ _ (@ps_set _ _ (i:=3) _ _ _ _ sc_lowest.nd rfl (by first | exact Or.inl rfl | exact Or.inr rfl) (pv 1) (by rfl) (by first | exact .inl rfl | exact .inr rfl | assumption)) (@pss_cons _ _ _ _ _ (@ps_while _ _ _ _ _ _ PassesOwn.never (@pt_cmpR _ _ _ _ _ _ _ _ (op_neA hr.units) (pv 3) (@pe_int _ _ _ _) (nomark _)) (@pss_one _ _ _ (@ps_par _ _ (i:=2) (j:=3) _ _ _ _ _ _ _ _ _ _ _ rfl sc_lowest.nd rfl rfl (by decide) rfl rfl (@pa_cons _ _ _ _ _ (pv 3) (@pa_cons _ _ _ _ _ (@pe_op _ _ _ _ _ _ _ _ op_mod (pv 2) (pv 3)) (@pa_nil _) (by rfl)) (by rfl)) rfl (by rfl)))) (@pss_one _ _ _ (@ps_ret _ _ _ _ (@pe_tup _ _ _ _ _ (@pa_cons _ _ _ _ _ (@pe_op _ _ _ _ _ _ _ _ op_fdivB (pv 0) (pv 2)) (@pa_cons _ _ _ _ _ (@pe_op _ _ _ _ _ _ _ _ op_fdivB (pv 1) (pv 2)) (@pa_nil _) (by rfl)) (by rfl)))))))),?_⟩
    walk_at "go"
    refine while_by (fun σ H' => ∃ one other:Int,σ = [some (.int t),some (.int b),some (.int one),some (.int other)] /\ H' = H /\ 0 <= one /\ 0 <= other /\ Int.gcd one other = Int.gcd t b)
      (fun σ _ => match σ with | [_,_,_,some (.int z)] => z.toNat | _ => 0) ⟨_,_,rfl,rfl,by split <;> omega,by omega,?_⟩ ?_ ?_
    . have e:∀ z:Int,(if z < 0 then -z else z) = (z.natAbs:Int):=fun z => by split <;> omega
      rw [e]
      simp [Int.gcd]
    . rintro σ H' ⟨one,other,rfl,rfl,h1,h2,hg⟩
      walk_at "go"
      refine i_d (fun c => ?_) (fun c => ?_)
      . subst c
        have e1:one = (Int.gcd t b:Int):=by rw [← hg,Int.gcd_zero_right]; omega
        have hb0:b ≠ 0:=by omega
        have hgb:(Int.gcd t b:Int).natAbs <= b.natAbs:=by
          have:=Nat.le_of_dvd (by omega) (Int.gcd_dvd_natAbs_right t b)
          omega
        subst e1
        walk_at "go"
        have es:(Int.gcd t b:Int) = sg t b:=by unfold sg; rw [if_neg (by omega)]
        rw [es]
        have hc:∀ z,CDivB z (sg t b):=fun _ => ⟨sg_ne hb0,Sm.le (by rw [sg_natAbs]; omega) hs2⟩
        refine r_fdiv (hc _) ?_
        walk_at "go"
        refine r_fdiv (hc _) ?_
        walk_at "go"
        refine r_tupK fun p hp => ?_
        walk_at "go"
        exact q p hp
      . walk_at "go"
        refine ⟨⟨_,_,rfl,rfl,h2,Int.emod_nonneg _ (by omega),by rw [gcd_step (by omega)]; exact hg⟩,?_⟩
        have:=Int.emod_lt_of_pos one (show 0 < other by omega)
        show (one % other).toNat < other.toNat
        omega
    . intro σ H Q Q' hQ h
      obtain ⟨v,e1,h⟩:=h
      rcases h with ⟨e2,b',e3,q'⟩ | ⟨d,e,e2,e3,e4,e5,b',e6,q'⟩
      . exact ⟨v,e1,.inl ⟨e2,b',e3,hQ _ _ q'⟩⟩
      . exact ⟨v,e1,.inr ⟨d,e,e2,e3,e4,e5,b',e6,hQ _ _ q'⟩⟩
set_option maxHeartbeats 0 in
theorem ok_share (T:Bl mg) (d:Df K mg "_law_share" s_share ["_law_number_here"]  ) (W:XmS mg xt x0 x1 x5 x6 x11) (R_NoWish:XrS K xt x0 x1 x5 x6 x11 x11 11) (o_lowest:Okf P w K mg base k "_law_lowest" ["_law_top","_law_bottom"] spLowest):Okf P w K mg base (k + 1) "_law_share" ["_law_number_here"] spShareW:=by
  refine Okf.of d sc_share (fun vs H Q E h => ?_) (fun f cdv A outer s H vs Q E hr h => ?_)
  . obtain ⟨r,rfl,_⟩:=h
    rfl
  . obtain ⟨r,rfl,hr0,q⟩:=h
    refine ⟨_,(@pss_cons _ _ _ _ _ (@ps_set _ _ (i:=1) _ _ _ _ sc_share.nd rfl (by first | exact Or.inl rfl | exact Or.inr rfl) (@pe_op _ _ _ _ _ _ _ _ op_sub (@pe_op _ _ _ _ _ _ _ _ op_mod (pv 0) (@pe_int _ _ _ _)) (@pe_int _ _ _ _)) (by rfl) (by first | exact .inl rfl | exact .inr rfl | assumption)) (@pss_cons _ _ _ _ _ (@ps_set _ _ (i:=2) _ _ _ _ sc_share.nd rfl (by first | exact Or.inl rfl | exact Or.inr rfl) (@pe_op _ _ _ _ _ _ _ _ op_addA (@pe_int _ _ _ _) (@pe_op _ _ _ _ _ _ _ _ op_mod (@pe_op _ _ _ _ _ _ _ _ op_fdivB (pv 0) (@pe_int _ _ _ _)) (@pe_int _ _ _ _))) (by rfl) (by first | exact .inl rfl | exact .inr rfl | assumption)) (@pss_cons _ _ _ _ _ (@ps_if _ _ _ _ _ _ _ _ (@pt_cmpR _ _ _ _ _ _ _ _ (op_eqA hr.units) (@pe_op _ _ _ _ _ _ _ _ op_mod (@pe_op _ _ _ _ _ _ _ _ op_fdivB (pv 0) (@pe_int _ _ _ _)) (@pe_int _ _ _ _)) (@pe_int _ _ _ _) (nomark _)) (@pss_cons _ _ _ _ _ (@ps_set _ _ (i:=1) _ _ _ _ sc_share.nd rfl (by first | exact Or.inl rfl | exact Or.inr rfl) (@pe_op _ _ _ _ _ _ _ _ op_sub (@pe_op _ _ _ _ _ _ _ _ op_mod (@pe_op _ _ _ _ _ _ _ _ op_fdivB (pv 0) (@pe_int _ _ _ _)) (@pe_op _ _ _ _ _ _ _ _ op_addA (@pe_op _ _ _ _ _ _ _ _ op_mulB (@pe_int _ _ _ _) (@pe_op _ _ _ _ _ _ _ _ op_pow (@pe_int _ _ _ _) (@pe_int _ _ _ _))) (@pe_int _ _ _ _))) (@pe_op _ _ _ _ _ _ _ _ op_pow (@pe_int _ _ _ _) (@pe_int _ _ _ _))) (by rfl) (by first | exact .inl rfl | exact .inr rfl | assumption)) (@pss_one _ _ _ (@ps_set _ _ (i:=2) _ _ _ _ sc_share.nd rfl (by first | exact Or.inl rfl | exact Or.inr rfl) (@pe_op _ _ _ _ _ _ _ _ op_addA (@pe_int _ _ _ _) (@pe_op _ _ _ _ _ _ _ _ op_mod (@pe_op _ _ _ _ _ _ _ _ op_fdivB (@pe_op _ _ _ _ _ _ _ _ op_fdivB (pv 0) (@pe_int _ _ _ _)) (@pe_op _ _ _ _ _ _ _ _ op_addA (@pe_op _ _ _ _ _ _ _ _ op_mulB (@pe_int _ _ _ _) (@pe_op _ _ _ _ _ _ _ _ op_pow (@pe_int _ _ _ _) (@pe_int _ _ _ _))) (@pe_int _ _ _ _))) (@pe_op _ _ _ _ _ _ _ _ op_pow (@pe_int _ _ _ _) (@pe_int _ _ _ _)))) (by rfl) (by first | exact .inl rfl | exact .inr rfl | assumption)))) (@pss_nil _)) (@pss_one _ _ _ (@ps_ret _ _ _ _ (@pe_callO _ _ _ _ _ _ _ _ _ _ o_lowest hr rfl (@pa_cons _ _ _ _ _ (pv 1) (@pa_cons _ _ _ _ _ (pv 2) (@pa_nil _) (by rfl)) (by rfl)) (by decide) (by rfl) (by rfl))))))),?_⟩
    walk_at "go"
    have hf:∀ {z j:Int},0 <= z -> 0 < j -> 0 <= z.fdiv j:=fun h1 h2 => fdiv_nn h1 h2
    have f1:=hf (z:=r) (j:=41) hr0 (by decide)
    refine i_d (fun c => ?_) (fun c => ?_)
    . walk_at "go"
      refine r_pow30 ?_
      walk_at "go"
      refine r_pow30 ?_
      walk_at "go"
      refine r_pow30 ?_
      walk_at "go"
      refine r_fdiv ⟨by omega,(Sm.of (n:=102) (by omega) (by omega)).mono (by decide)⟩ ?_
      walk_at "go"
      refine r_pow30 ?_
      walk_at "go"
      have g1:∀ z:Int,0 <= z % (2 * 1000000000000000000000000000000 + 1) /\ z % (2 * 1000000000000000000000000000000 + 1) < 2 * 1000000000000000000000000000000 + 1:=fun z => by omega
      have g2:∀ z:Int,0 <= z % 1000000000000000000000000000000 /\ z % 1000000000000000000000000000000 < 1000000000000000000000000000000:=fun z => by omega
      generalize hA:r.fdiv 1968 % (2 * 1000000000000000000000000000000 + 1) = A1
      generalize hB:(r.fdiv 1968).fdiv (2 * 1000000000000000000000000000000 + 1) % 1000000000000000000000000000000 = B1
      have k1:0 <= A1 /\ A1 < 2 * 1000000000000000000000000000000 + 1:=by rw [← hA]; exact g1 _
      have k2:0 <= B1 /\ B1 < 1000000000000000000000000000000:=by rw [← hB]; exact g2 _
      refine ⟨_,_,rfl,by omega,(Sm.of (n:=102) (by omega) (by omega)).mono (by decide),(Sm.of (n:=102) (by omega) (by omega)).mono (by decide),fun p hp => ?_⟩
      walk_at "go"
      exact q p _ _ hp (by omega) (by omega) (by omega) (by omega)
    . walk_at "go"
      refine ⟨_,_,rfl,by omega,(Sm.of (n:=102) (by omega) (by omega)).mono (by decide),(Sm.of (n:=102) (by omega) (by omega)).mono (by decide),fun p hp => ?_⟩
      walk_at "go"
      exact q p _ _ hp (by omega) (by omega) (by omega) (by omega)
set_option maxHeartbeats 0 in
theorem ok_bells (T:Bl mg) (d:Df K mg "_law_bells" s_bells ["_law_script","_law_most"]  ) (W:XmS mg xt x0 x1 x5 x6 x11) (R_NoWish:XrS K xt x0 x1 x5 x6 x11 x11 11) (o_number:Okf P w K mg base k "_law_number" ["_law_script","_law_k"] (spNumW K)):Okf P w K mg base (k + 1) "_law_bells" ["_law_script","_law_most"] (spBells K):=by
  refine Okf.of d sc_bells (fun vs H Q E h => ?_) (fun f cdv A outer s H vs Q E hr h => ?_)
  . obtain ⟨a,ns,mo,rfl,_⟩:=h
    rfl
  . obtain ⟨a,ns,mo,rfl,hS,hm1,hm2,q⟩:=h
    refine ⟨_,(@pss_cons _ _ _ _ _ (@ps_set _ _ (i:=2) _ _ _ _ sc_bells.nd rfl (by first | exact Or.inl rfl | exact Or.inr rfl) (@pe_str _ _ _ _) (by rfl) (by first | exact .inl rfl | exact .inr rfl | assumption)) (@pss_cons _ _ _ _ _ (@ps_set _ _ (i:=3) _ _ _ _ sc_bells.nd rfl (by first | exact Or.inl rfl | exact Or.inr rfl) (@pe_callO _ _ _ _ _ _ _ _ _ _ o_number hr rfl (@pa_cons _ _ _ _ _ (pv 0) (@pa_cons _ _ _ _ _ (@pe_int _ _ _ _) (@pa_nil _) (by rfl)) (by rfl)) (by decide) (by rfl) (by rfl)) (by rfl) (by first | exact .inl rfl | exact .inr rfl | assumption)) (@pss_cons _ _ _ _ _ (@ps_set _ _ (i:=4) _ _ _ _ sc_bells.nd rfl (by first | exact Or.inl rfl | exact Or.inr rfl) (@pe_ix _ _ _ _ _ _ _ ix_LT (@pe_lst _ _ _ _ (@pa_cons _ _ _ _ _ (@pe_str _ _ _ _) (@pa_cons _ _ _ _ _ (@pe_str _ _ _ _) (@pa_cons _ _ _ _ _ (@pe_str _ _ _ _) (@pa_cons _ _ _ _ _ (@pe_str _ _ _ _) (@pa_nil _) (by rfl)) (by rfl)) (by rfl)) (by rfl))) (@pe_op _ _ _ _ _ _ _ _ op_mod (pv 3) (@pe_int _ _ _ _)) (fun _ _ => rfl)) (by rfl) (by first | exact .inl rfl | exact .inr rfl | assumption)) (@pss_cons _ _ _ _ _ (@ps_set _ _ (i:=5) _ _ _ _ sc_bells.nd rfl (by first | exact Or.inl rfl | exact Or.inr rfl) (@pe_ix _ _ _ _ _ _ _ ix_LT (@pe_lst _ _ _ _ (@pa_cons _ _ _ _ _ (@pe_str _ _ _ _) (@pa_cons _ _ _ _ _ (@pe_str _ _ _ _) (@pa_cons _ _ _ _ _ (@pe_str _ _ _ _) (@pa_cons _ _ _ _ _ (@pe_str _ _ _ _) (@pa_nil _) (by rfl)) (by rfl)) (by rfl)) (by rfl))) (@pe_op _ _ _ _ _ _ _ _ op_mod (@pe_op _ _ _ _ _ _ _ _ op_fdivB (pv 3) (@pe_int _ _ _ _)) (@pe_int _ _ _ _)) (fun _ _ => rfl)) (by rfl) (by first | exact .inl rfl | exact .inr rfl | assumption)) (@pss_cons _ _ _ _ _ (@ps_set _ _ (i:=6) _ _ _ _ sc_bells.nd rfl (by first | exact Or.inl rfl | exact Or.inr rfl) (@pe_op _ _ _ _ _ _ _ _ op_mod (@pe_op _ _ _ _ _ _ _ _ op_fdivB (pv 3) (@pe_int _ _ _ _)) (@pe_int _ _ _ _)) (by rfl) (by first | exact .inl rfl | exact .inr rfl | assumption)) (@pss_cons _ _ _ _ _ (@ps_set _ _ (i:=7) _ _ _ _ sc_bells.nd rfl (by first | exact Or.inl rfl | exact Or.inr rfl) (@pe_op _ _ _ _ _ _ _ _ op_mod (@pe_op _ _ _ _ _ _ _ _ op_fdivB (pv 3) (@pe_int _ _ _ _)) (@pe_int _ _ _ _)) (by rfl) (by first | exact .inl rfl | exact .inr rfl | assumption)) (@pss_cons _ _ _ _ _ (@ps_set _ _ (i:=8) _ _ _ _ sc_bells.nd rfl (by first | exact Or.inl rfl | exact Or.inr rfl) (@pe_lst _ _ _ _ (@pa_nil _)) (by rfl) (by first | exact .inl rfl | exact .inr rfl | assumption)) (@pss_cons _ _ _ _ _ (@ps_for _ _ _ _ _ _ _ _ PassesOwn.never rfl (@pi_range1 _ _ _ _ _ _ rfl T.z_range (@pa_cons _ _ _ _ _ (@pe_op _ _ _ _ _ _ _ _ op_addA (@pe_int _ _ _ _) (@pe_op _ _ _ _ _ _ _ _ op_mod (@pe_op _ _ _ _ _ _ _ _ op_fdivB (pv 3) (@pe_int _ _ _ _)) (@pe_op _ _ _ _ _ _ _ _ op_sub (pv 1) (@pe_int _ _ _ _)))) (@pa_nil _) (by rfl)) (by rfl)) (@pg_name _ _ (i:=9) _ sc_bells.nd rfl (by first | exact Or.inl rfl | exact Or.inr rfl) (by first | exact .inl rfl | exact .inr rfl | assumption)) (@pss_cons _ _ _ _ _ (@ps_set _ _ (i:=10) _ _ _ _ sc_bells.nd rfl (by first | exact Or.inl rfl | exact Or.inr rfl) (@pe_op _ _ _ _ _ _ _ _ op_addA (pv 4) (@pe_ix _ _ _ _ _ _ _ ix_LT (pv 2) (@pe_op _ _ _ _ _ _ _ _ op_mod (@pe_op _ _ _ _ _ _ _ _ op_addA (pv 6) (@pe_op _ _ _ _ _ _ _ _ op_fdivB (pv 9) (@pe_int _ _ _ _))) (@pe_int _ _ _ _)) (fun _ _ => rfl))) (by rfl) (by first | exact .inl rfl | exact .inr rfl | assumption)) (@pss_one _ _ _ (@ps_expr _ _ _ _ (@pe_bm _ _ _ _ _ _ _ _ _ _ _ _ PySem.F.plainAttrs_list PySem.F.slot_list_append PySem.F.type_list_append mt_append (pv 8) (@pa_cons _ _ _ _ _ (@pe_op _ _ _ _ _ _ _ _ op_addA (@pe_op _ _ _ _ _ _ _ _ op_addA (pv 10) (@pe_ix _ _ _ _ _ _ _ ix_LT (pv 2) (@pe_op _ _ _ _ _ _ _ _ op_mod (@pe_op _ _ _ _ _ _ _ _ op_addA (pv 7) (pv 9)) (@pe_int _ _ _ _)) (fun _ _ => rfl))) (pv 5)) (@pa_nil _) (by rfl)) (by rfl) (by rfl) (by rfl) (by rfl) (by rfl)) (by rfl)))) (by intro _; rfl)) (@pss_one _ _ _ (@ps_ret _ _ _ _ (pv 8))))))))))),?_⟩
    have h26:abc.length <= 100000:=by rw [abc_len]; decide
    walk_at "go"
    refine ⟨a,ns,1,rfl,hS,by decide,by decide,fun r hr => ?_⟩
    have hf:∀ {z j:Int},0 <= z -> 0 < j -> 0 <= z.fdiv j:=fun h1 h2 => fdiv_nn h1 h2
    walk_at "go"
    refine r_lstK fun l1 g1 => ?_
    walk_at "go"
    have d1:0 <= r % 4 /\ r % 4 < 4:=by omega
    obtain ⟨i,hi,ei⟩:∃ i:Nat,i < 4 /\ r % 4 = i:=⟨(r % 4).toNat,by omega,by omega⟩
    rw [ei]
    have at4:∀ i:Nat,i < 4 -> atI [V.str (Str.ofString ""),V.str (Str.ofString "ab"),V.str (Str.ofString "abc.d"),V.str (Str.ofString "x.y.z")] (i:Int) = some (V.str (bef i)):=fun i hi => by
      have:i = 0 ∨ i = 1 ∨ i = 2 ∨ i = 3:=by omega
      rcases this with rfl | rfl | rfl | rfl <;> rfl
    have at5:∀ i:Nat,i < 4 -> atI [V.str (Str.ofString ""),V.str (Str.ofString "q"),V.str (Str.ofString ".r"),V.str (Str.ofString "qqqq")] (i:Int) = some (V.str (beh i)):=fun i hi => by
      have:i = 0 ∨ i = 1 ∨ i = 2 ∨ i = 3:=by omega
      rcases this with rfl | rfl | rfl | rfl <;> rfl
    refine r_ixl upd_same (at4 i hi) ?_
    walk_at "go"
    refine r_lstK fun l2 g2 => ?_
    walk_at "go"
    obtain ⟨j,hj,ej⟩:∃ j:Nat,j < 4 /\ r.fdiv 4 % 4 = j:=⟨(r.fdiv 4 % 4).toNat,by omega,by omega⟩
    rw [ej]
    refine r_ixl upd_same (at5 j hj) ?_
    walk_at "go"
    obtain ⟨o,ho,eo⟩:∃ j:Nat,j < 26 /\ r.fdiv 16 % 26 = j:=⟨(r.fdiv 16 % 26).toNat,by omega,by omega⟩
    obtain ⟨e,he,ee⟩:∃ j:Nat,j < 26 /\ r.fdiv 416 % 26 = j:=⟨(r.fdiv 416 % 26).toNat,by omega,by omega⟩
    rw [eo,ee]
    refine r_lstK fun l3 g3 => ?_
    walk_at "go"
    have hn:0 <= r.fdiv 10816 % (mo - 7) /\ r.fdiv 10816 % (mo - 7) < mo - 7:=⟨Int.emod_nonneg _ (by omega),Int.emod_lt_of_pos _ (by omega)⟩
    generalize r.fdiv 10816 % (mo - 7) = m at hn ⊢
    refine r_rng1K (by omega) (by omega) ?_
    have lb:(bef i).length <= 5:=by
      have:i = 0 ∨ i = 1 ∨ i = 2 ∨ i = 3:=by omega
      rcases this with rfl | rfl | rfl | rfl <;> decide +kernel
    have lh:(beh j).length <= 5:=by
      have:j = 0 ∨ j = 1 ∨ j = 2 ∨ j = 3:=by omega
      rcases this with rfl | rfl | rfl | rfl <;> decide +kernel
    have s3:=((Same.new (H:=H) (o:=.lst [V.str (Str.ofString ""),V.str (Str.ofString "ab"),V.str (Str.ofString "abc.d"),V.str (Str.ofString "x.y.z")]) g1).trans (Same.new (o:=.lst [V.str (Str.ofString ""),V.str (Str.ofString "q"),V.str (Str.ofString ".r"),V.str (Str.ofString "qqqq")]) g2))
    have f3:=s3.free g3
    generalize upd (upd H l1 (.lst [V.str (Str.ofString ""),V.str (Str.ofString "ab"),V.str (Str.ofString "abc.d"),V.str (Str.ofString "x.y.z")])) l2 (.lst [V.str (Str.ofString ""),V.str (Str.ofString "q"),V.str (Str.ofString ".r"),V.str (Str.ofString "qqqq")]) = H3 at s3 g3 ⊢
    refine r_forR (n:=(8 + m).toNat) (fun x σ G => ∃ o1 o2,σ = [some (.ref a),some (.int mo),some (.str abc),some (.int r),some (.str (bef i)),some (.str (beh j)),some (.int o),some (.int e),some (.ref l3),o1,o2] /\ Kp l3 H3 G /\ G l3 = some (.lst ((nmsB i j o e x).map V.str))) ⟨_,_,rfl,Kp.new g3,upd_same⟩ ?_ ?_
    . rintro x σ G hx ⟨o1,o2,rfl,kG,hG⟩
      walk_at "go"
      have e1:((o:Int) + (0 + (x:Int)).fdiv 26) % 26 = (((o + x / 26) % 26:Nat):Int):=by
        rw [Int.zero_add,fdiv_nat]
        omega
      rw [e1]
      refine r_ixS h26 (abc_at _ (Nat.mod_lt _ (by decide))) ?_
      have L1:∀ c:Nat,(⟨#[c]⟩:Str).length = 1:=fun c => rfl
      walk_at "go"
      refine r_addS (by rw [L1]; omega) ?_
      walk_at "go"
      have e2:((e:Int) + (0 + (x:Int))) % 26 = (((e + x) % 26:Nat):Int):=by omega
      rw [e2]
      refine r_ixS h26 (abc_at _ (Nat.mod_lt _ (by decide))) ?_
      walk_at "go"
      refine r_addS (by rw [len_plus,L1,L1]; omega) ?_
      walk_at "go"
      refine r_addS (by rw [len_plus,len_plus,L1,L1]; omega) ?_
      walk_at "go"
      refine r_app hG (by rw [List.length_map,nmsB_len]; omega) ?_
      walk_at "go"
      refine ⟨_,_,rfl,kG.trans Kp.upd,?_⟩
      rw [upd_same,nmsB_snoc,List.map_append]
      rfl
    . rintro σ G ⟨o1,o2,rfl,kG,hG⟩
      walk_at "go"
      exact q l3 G i j o e _ f3 (kG.sm s3 f3) hi hj (by omega) (by omega) hG
set_option maxHeartbeats 0 in
theorem ok_wish (T:Bl mg) (d:Df K mg "_law_wish" s_wish ["_law_number_here","_law_bells_here"]  ) (W:XmS mg xt x0 x1 x5 x6 x11) (R_NoWish:XrS K xt x0 x1 x5 x6 x11 x11 11) (o_share:Okf P w K mg base k "_law_share" ["_law_number_here"] spShareW):Okf P w K mg base (k + 1) "_law_wish" ["_law_number_here","_law_bells_here"] (spWish K):=by
  refine Okf.of d sc_wish (fun vs H Q E h => ?_) (fun f cdv A outer s H vs Q E hr h => ?_)
  . obtain ⟨n,l,U,rfl,_⟩:=h
    rfl
  . obtain ⟨n,l,U,rfl,hn0,hl,hl8,hl100,nd,hU,q⟩:=h
    refine ⟨_,(@pss_cons _ _ _ _ _ (@ps_set _ _ (i:=2) _ _ _ _ sc_wish.nd rfl (by first | exact Or.inl rfl | exact Or.inr rfl) (@pe_op _ _ _ _ _ _ _ _ op_mod (pv 0) (@pe_int _ _ _ _)) (by rfl) (by first | exact .inl rfl | exact .inr rfl | assumption)) (@pss_cons _ _ _ _ _ (@ps_set _ _ (i:=3) _ _ _ _ sc_wish.nd rfl (by first | exact Or.inl rfl | exact Or.inr rfl) (@pe_callB _ _ _ _ _ _ _ _ _ c_len rfl T.z_len bt_len (@pa_cons _ _ _ _ _ (pv 1) (@pa_nil _) (by rfl)) (by decide) (by decide) (by rfl) (by rfl)) (by rfl) (by first | exact .inl rfl | exact .inr rfl | assumption)) (@pss_cons _ _ _ _ _ (@ps_set _ _ (i:=4) _ _ _ _ sc_wish.nd rfl (by first | exact Or.inl rfl | exact Or.inr rfl) (@pe_op _ _ _ _ _ _ _ _ op_mod (@pe_op _ _ _ _ _ _ _ _ op_fdivB (pv 0) (@pe_int _ _ _ _)) (pv 3)) (by rfl) (by first | exact .inl rfl | exact .inr rfl | assumption)) (@pss_cons _ _ _ _ _ (@ps_set _ _ (i:=0) _ _ _ _ sc_wish.nd rfl (by first | exact Or.inl rfl | exact Or.inr rfl) (@pe_op _ _ _ _ _ _ _ _ op_fdivB (@pe_op _ _ _ _ _ _ _ _ op_fdivB (pv 0) (@pe_int _ _ _ _)) (pv 3)) (by rfl) (by first | exact .inl rfl | exact .inr rfl | assumption)) (@pss_cons _ _ _ _ _ (@ps_set _ _ (i:=5) _ _ _ _ sc_wish.nd rfl (by first | exact Or.inl rfl | exact Or.inr rfl) (@pe_op _ _ _ _ _ _ _ _ op_mod (@pe_op _ _ _ _ _ _ _ _ op_addA (pv 4) (@pe_ix _ _ _ _ _ _ _ ix_LT (@pe_lst _ _ _ _ (@pa_cons _ _ _ _ _ (@pe_int _ _ _ _) (@pa_cons _ _ _ _ _ (@pe_op _ _ _ _ _ _ _ _ op_sub (pv 3) (@pe_int _ _ _ _)) (@pa_cons _ _ _ _ _ (@pe_op _ _ _ _ _ _ _ _ op_addA (@pe_int _ _ _ _) (@pe_op _ _ _ _ _ _ _ _ op_mod (@pe_op _ _ _ _ _ _ _ _ op_fdivB (pv 0) (@pe_int _ _ _ _)) (@pe_op _ _ _ _ _ _ _ _ op_sub (pv 3) (@pe_int _ _ _ _)))) (@pa_nil _) (by rfl)) (by rfl)) (by rfl))) (@pe_op _ _ _ _ _ _ _ _ op_mod (pv 0) (@pe_int _ _ _ _)) (fun _ _ => rfl))) (pv 3)) (by rfl) (by first | exact .inl rfl | exact .inr rfl | assumption)) (@pss_cons _ _ _ _ _ (@ps_set _ _ (i:=6) _ _ _ _ sc_wish.nd rfl (by first | exact Or.inl rfl | exact Or.inr rfl) (@pe_callO _ _ _ _ _ _ _ _ _ _ o_share hr rfl (@pa_cons _ _ _ _ _ (@pe_op _ _ _ _ _ _ _ _ op_fdivB (@pe_op _ _ _ _ _ _ _ _ op_fdivB (pv 0) (@pe_int _ _ _ _)) (@pe_op _ _ _ _ _ _ _ _ op_sub (pv 3) (@pe_int _ _ _ _))) (@pa_nil _) (by rfl)) (by decide) (by rfl) (by rfl)) (by rfl) (by first | exact .inl rfl | exact .inr rfl | assumption)) (@pss_cons _ _ _ _ _ (@ps_if _ _ _ _ _ _ _ _ (@pt_cmpR _ _ _ _ _ _ _ _ (op_eqA hr.units) (pv 2) (@pe_int _ _ _ _) (nomark _)) (@pss_one _ _ _ (@ps_ret _ _ _ _ (@pe_tup _ _ _ _ _ (@pa_cons _ _ _ _ _ (@pe_str _ _ _ _) (@pa_cons _ _ _ _ _ (@pe_ix _ _ _ _ _ _ _ ix_LT (pv 1) (pv 4) (fun _ _ => rfl)) (@pa_cons _ _ _ _ _ (@pe_ix _ _ _ _ _ _ _ ix_LT (pv 1) (pv 5) (fun _ _ => rfl)) (@pa_cons _ _ _ _ _ (pv 6) (@pa_nil _) (by rfl)) (by rfl)) (by rfl)) (by rfl))))) (@pss_nil _)) (@pss_cons _ _ _ _ _ (@ps_if _ _ _ _ _ _ _ _ (@pt_cmpR _ _ _ _ _ _ _ _ (op_eqA hr.units) (pv 2) (@pe_int _ _ _ _) (nomark _)) (@pss_one _ _ _ (@ps_ret _ _ _ _ (@pe_tup _ _ _ _ _ (@pa_cons _ _ _ _ _ (@pe_str _ _ _ _) (@pa_cons _ _ _ _ _ (@pe_ix _ _ _ _ _ _ _ ix_LT (pv 1) (pv 4) (fun _ _ => rfl)) (@pa_cons _ _ _ _ _ (@pe_ix _ _ _ _ _ _ _ ix_LT (pv 1) (pv 5) (fun _ _ => rfl)) (@pa_cons _ _ _ _ _ (pv 6) (@pa_nil _) (by rfl)) (by rfl)) (by rfl)) (by rfl))))) (@pss_nil _)) (@pss_cons _ _ _ _ _ (@ps_if _ _ _ _ _ _ _ _ (@pt_cmpR _ _ _ _ _ _ _ _ (op_eqA hr.units) (pv 2) (@pe_int _ _ _ _) (nomark _)) (@pss_one _ _ _ (@ps_ret _ _ _ _ (@pe_tup _ _ _ _ _ (@pa_cons _ _ _ _ _ (@pe_str _ _ _ _) (@pa_cons _ _ _ _ _ (@pe_ix _ _ _ _ _ _ _ ix_LT (pv 1) (pv 4) (fun _ _ => rfl)) (@pa_cons _ _ _ _ _ (@pe_ix _ _ _ _ _ _ _ ix_LT (pv 1) (pv 5) (fun _ _ => rfl)) (@pa_nil _) (by rfl)) (by rfl)) (by rfl))))) (@pss_nil _)) (@pss_one _ _ _ (@ps_ret _ _ _ _ (@pe_tup _ _ _ _ _ (@pa_cons _ _ _ _ _ (@pe_str _ _ _ _) (@pa_cons _ _ _ _ _ (@pe_ix _ _ _ _ _ _ _ ix_LT (pv 1) (pv 4) (fun _ _ => rfl)) (@pa_cons _ _ _ _ _ (@pe_tup _ _ _ _ _ (@pa_cons _ _ _ _ _ (@pe_callB _ _ _ _ _ _ _ _ _ c_abs rfl T.z_abs bt_abs (@pa_cons _ _ _ _ _ (@pe_ix _ _ _ _ _ _ _ ix_LT (pv 6) (@pe_int _ _ _ _) (fun _ _ => rfl)) (@pa_nil _) (by rfl)) (by decide) (by decide) (by rfl) (by rfl)) (@pa_cons _ _ _ _ _ (@pe_ix _ _ _ _ _ _ _ ix_LT (pv 6) (@pe_int _ _ _ _) (fun _ _ => rfl)) (@pa_nil _) (by rfl)) (by rfl))) (@pa_nil _) (by rfl)) (by rfl)) (by rfl)))))))))))))),?_⟩
    have hf:∀ {z j:Int},0 <= z -> 0 < j -> 0 <= z.fdiv j:=fun h1 h2 => fdiv_nn h1 h2
    have f1:=hf (z:=n) (j:=4) hn0 (by decide)
    walk_at "go"
    rw [List.length_map]
    obtain ⟨m,em⟩:∃ m:Nat,m = U.length:=⟨_,rfl⟩
    rw [← em] at hl8 hl100
    rw [← em]
    have hm0:(0:Int) < (m:Int):=by omega
    have i1:=Int.emod_nonneg (n.fdiv 4) (show (m:Int) ≠ 0 by omega)
    have i2:=Int.emod_lt_of_pos (n.fdiv 4) hm0
    generalize hi:n.fdiv 4 % (m:Int) = i at i1 i2
    have f2:=hf (z:=n.fdiv 4) (j:=(m:Int)) f1 hm0
    generalize hn2:(n.fdiv 4).fdiv (m:Int) = n2 at f2
    walk_at "go"
    refine r_lstK fun l1 g1 => ?_
    walk_at "go"
    rw [hn2]
    have j1:=Int.emod_nonneg (n2.fdiv 3) (show (m:Int) - 1 ≠ 0 by omega)
    have j2:=Int.emod_lt_of_pos (n2.fdiv 3) (show 0 < (m:Int) - 1 by omega)
    generalize n2.fdiv 3 % ((m:Int) - 1) = j at j1 j2 ⊢
    obtain ⟨d,hd1,hd2,hd3⟩:∃ d:Int,1 <= d /\ d <= (m:Int) - 1 /\ atI [V.int 1,V.int ((m:Int) - 1),V.int (1 + j)] (n2 % 3) = some (V.int d):=by
      have:n2 % 3 = 0 ∨ n2 % 3 = 1 ∨ n2 % 3 = 2:=by omega
      rcases this with e | e | e <;> rw [e]
      . exact ⟨1,by omega,by omega,rfl⟩
      . exact ⟨_,by omega,by omega,rfl⟩
      . exact ⟨_,by omega,by omega,rfl⟩
    refine r_ixl upd_same hd3 ?_
    walk_at "go"
    rw [hi]
    have o1:=Int.emod_nonneg (i + d) (show (m:Int) ≠ 0 by omega)
    have o2:=Int.emod_lt_of_pos (i + d) hm0
    have o3:(i + d) % (m:Int) ≠ i:=fun e => by
      have:=Int.emod_add_mul_ediv (i + d) (m:Int)
      have hq:((i + d) / (m:Int)) < 2:=Int.ediv_lt_of_lt_mul hm0 (by omega)
      have hq0:0 <= ((i + d) / (m:Int)):=Int.ediv_nonneg (by omega) (by omega)
      have h01:((i + d) / (m:Int)) = 0 ∨ ((i + d) / (m:Int)) = 1:=by omega
      rcases h01 with z | z <;> rw [z] at this <;> omega
    generalize (i + d) % (m:Int) = o at o1 o2 o3 ⊢
    obtain ⟨a,rfl⟩:∃ a:Nat,i = a:=⟨i.toNat,by omega⟩
    obtain ⟨c,rfl⟩:∃ c:Nat,o = c:=⟨o.toNat,by omega⟩
    have ha:a < U.length:=by omega
    have hc:c < U.length:=by omega
    have ea:atI (U.map V.str) (a:Int) = some (V.str U[a]):=atI_nat (by rw [List.getElem?_map,List.getElem?_eq_getElem ha]; rfl)
    have ec:atI (U.map V.str) (c:Int) = some (V.str U[c]):=atI_nat (by rw [List.getElem?_map,List.getElem?_eq_getElem hc]; rfl)
    have m1:=List.getElem_mem ha
    have m2:=List.getElem_mem hc
    have hne:U[a] ≠ U[c]:=fun e => o3 (by rw [nd_at nd ha hc e])
    generalize U[a] = s1 at ea m1 hne
    generalize U[c] = s2 at ec m2 hne
    have f3:=hf (z:=n2) (j:=3) f2 (by decide)
    have f4:=hf (z:=n2.fdiv 3) (j:=(m:Int) - 1) f3 (by omega)
    refine ⟨_,rfl,f4,fun p t b hp hb1 hb2 ht1 ht2 => ?_⟩
    have sp:=(Same.new (H:=H) (o:=.lst [V.int 1,V.int ((m:Int) - 1),V.int (1 + j)]) g1).trans (Same.new (o:=.tup [.int (lowT t b),.int (lowB t b)]) hp)
    have hl2:=sp _ _ hl
    have SR:SmR (Rat.divInt t b):=smr_low hb1 hb2 ht1 ht2
    walk_at "go"
    refine i_d (fun c0 => ?_) (fun c0 => ?_)
    . walk_at "go"
      refine r_ixl hl2 ea ?_
      walk_at "go"
      refine r_ixl hl2 ec ?_
      walk_at "go"
      refine r_tupK fun pw gw => ?_
      walk_at "go"
      exact q (.ref pw) _ (.after s1 s2 (Rat.divInt t b)) (sp.trans (Same.new gw)) ⟨pw,_,rfl,upd_same,FrQ.low (by omega) (upd_old gw upd_same)⟩ ⟨hU _ m1,hU _ m2,hne,SR⟩ ⟨m1,m2⟩ ⟨t,b,hb1,hb2,ht1,ht2,rfl⟩
    . walk_at "go"
      refine i_d (fun c1 => ?_) (fun c1 => ?_)
      . walk_at "go"
        refine r_ixl hl2 ea ?_
        walk_at "go"
        refine r_ixl hl2 ec ?_
        walk_at "go"
        refine r_tupK fun pw gw => ?_
        walk_at "go"
        exact q (.ref pw) _ (.within s1 s2 (Rat.divInt t b)) (sp.trans (Same.new gw)) ⟨pw,_,rfl,upd_same,FrQ.low (by omega) (upd_old gw upd_same)⟩ ⟨hU _ m1,hU _ m2,hne,SR⟩ ⟨m1,m2⟩ ⟨t,b,hb1,hb2,ht1,ht2,rfl⟩
      . walk_at "go"
        refine i_d (fun c2 => ?_) (fun c2 => ?_)
        . walk_at "go"
          refine r_ixl hl2 ea ?_
          walk_at "go"
          refine r_ixl hl2 ec ?_
          walk_at "go"
          refine r_tupK fun pw gw => ?_
          walk_at "go"
          exact q (.ref pw) _ (.wit s1 s2) (sp.trans (Same.new gw)) ⟨pw,rfl,upd_same⟩ ⟨hU _ m1,hU _ m2,hne⟩ ⟨m1,m2⟩ trivial
        . walk_at "go"
          refine r_ixl hl2 ea ?_
          walk_at "go"
          refine r_tupK fun pa ga => ?_
          walk_at "go"
          refine r_tupK fun pw gw => ?_
          walk_at "go"
          have eA:(if lowT t b < 0 then -lowT t b else lowT t b) = lowT (if t < 0 then -t else t) b /\ lowB t b = lowB (if t < 0 then -t else t) b:=low_abs (by omega)
          have hb':b ≠ 0:=by omega
          have ht':0 <= (if t < 0 then -t else t) /\ (if t < 0 then -t else t) <= 10 ^ 30:=by split <;> omega
          generalize (if t < 0 then -t else t) = t' at eA ht'
          refine q (.ref pw) _ (.frm s1 (Rat.divInt t' b)) ((sp.trans (Same.new ga)).trans (Same.new gw)) ⟨pw,_,rfl,upd_same,pa,rfl,?_⟩ ⟨hU _ m1,low_nn ht'.1 hb1,smr_low hb1 hb2 (by omega) ht'.2⟩ m1 ⟨t',b,hb1,hb2,by omega,ht'.2,rfl⟩
          rw [(low_rat (t:=t') hb').1,(low_rat (t:=t') hb').2,← eA.1,← eA.2]
          exact upd_old gw upd_same
set_option maxHeartbeats 0 in
theorem ok_odd (T:Bl mg) (d:Df K mg "_law_odd" s_odd ["_law_number_here","_law_bells_here"]  ) (W:XmS mg xt x0 x1 x5 x6 x11) (R_NoWish:XrS K xt x0 x1 x5 x6 x11 x11 11):Okf P w K mg base (k + 1) "_law_odd" ["_law_number_here","_law_bells_here"] (spOdd52 K):=by
  refine Okf.of d sc_odd (fun vs H Q E h => ?_) (fun f cdv A outer s H vs Q E hr h => ?_)
  . obtain ⟨n,l,U,rfl,_⟩:=h
    rfl
  . obtain ⟨n,l,U,rfl,hn,hl,hl8,hl100,nd,hU,q⟩:=h
    refine ⟨_,(@pss_cons _ _ _ _ _ (@ps_set _ _ (i:=2) _ _ _ _ sc_odd.nd rfl (by first | exact Or.inl rfl | exact Or.inr rfl) (@pe_ix _ _ _ _ _ _ _ ix_LT (pv 1) (@pe_op _ _ _ _ _ _ _ _ op_mod (@pe_op _ _ _ _ _ _ _ _ op_fdivB (pv 0) (@pe_int _ _ _ _)) (@pe_callB _ _ _ _ _ _ _ _ _ c_len rfl T.z_len bt_len (@pa_cons _ _ _ _ _ (pv 1) (@pa_nil _) (by rfl)) (by decide) (by decide) (by rfl) (by rfl))) (fun _ _ => rfl)) (by rfl) (by first | exact .inl rfl | exact .inr rfl | assumption)) (@pss_cons _ _ _ _ _ (@ps_set _ _ (i:=3) _ _ _ _ sc_odd.nd rfl (by first | exact Or.inl rfl | exact Or.inr rfl) (@pe_ix _ _ _ _ _ _ _ ix_LT (pv 1) (@pe_op _ _ _ _ _ _ _ _ op_mod (@pe_op _ _ _ _ _ _ _ _ op_addA (@pe_op _ _ _ _ _ _ _ _ op_fdivB (pv 0) (@pe_int _ _ _ _)) (@pe_int _ _ _ _)) (@pe_callB _ _ _ _ _ _ _ _ _ c_len rfl T.z_len bt_len (@pa_cons _ _ _ _ _ (pv 1) (@pa_nil _) (by rfl)) (by decide) (by decide) (by rfl) (by rfl))) (fun _ _ => rfl)) (by rfl) (by first | exact .inl rfl | exact .inr rfl | assumption)) (@pss_cons _ _ _ _ _ (@ps_set _ _ (i:=4) _ _ _ _ sc_odd.nd rfl (by first | exact Or.inl rfl | exact Or.inr rfl) (@pe_lst _ _ _ _ (@pa_cons _ _ _ _ _ (@pe_non _ _ _) (@pa_cons _ _ _ _ _ (@pe_tup _ _ _ _ _ (@pa_nil _)) (@pa_cons _ _ _ _ _ (@pe_tup _ _ _ _ _ (@pa_cons _ _ _ _ _ (@pe_str _ _ _ _) (@pa_cons _ _ _ _ _ (pv 2) (@pa_cons _ _ _ _ _ (pv 3) (@pa_nil _) (by rfl)) (by rfl)) (by rfl))) (@pa_cons _ _ _ _ _ (@pe_tup _ _ _ _ _ (@pa_cons _ _ _ _ _ (@pe_str _ _ _ _) (@pa_cons _ _ _ _ _ (pv 2) (@pa_cons _ _ _ _ _ (pv 2) (@pa_cons _ _ _ _ _ (@pe_tup _ _ _ _ _ (@pa_cons _ _ _ _ _ (@pe_int _ _ _ _) (@pa_cons _ _ _ _ _ (@pe_int _ _ _ _) (@pa_nil _) (by rfl)) (by rfl))) (@pa_nil _) (by rfl)) (by rfl)) (by rfl)) (by rfl))) (@pa_cons _ _ _ _ _ (@pe_tup _ _ _ _ _ (@pa_cons _ _ _ _ _ (@pe_str _ _ _ _) (@pa_cons _ _ _ _ _ (pv 2) (@pa_cons _ _ _ _ _ (pv 3) (@pa_cons _ _ _ _ _ (@pe_tup _ _ _ _ _ (@pa_cons _ _ _ _ _ (@pe_int _ _ _ _) (@pa_cons _ _ _ _ _ (@pe_int _ _ _ _) (@pa_nil _) (by rfl)) (by rfl))) (@pa_nil _) (by rfl)) (by rfl)) (by rfl)) (by rfl))) (@pa_cons _ _ _ _ _ (@pe_tup _ _ _ _ _ (@pa_cons _ _ _ _ _ (@pe_str _ _ _ _) (@pa_cons _ _ _ _ _ (pv 2) (@pa_cons _ _ _ _ _ (pv 3) (@pa_cons _ _ _ _ _ (@pe_int _ _ _ _) (@pa_nil _) (by rfl)) (by rfl)) (by rfl)) (by rfl))) (@pa_nil _) (by rfl)) (by rfl)) (by rfl)) (by rfl)) (by rfl)) (by rfl))) (by rfl) (by first | exact .inl rfl | exact .inr rfl | assumption)) (@pss_cons _ _ _ _ _ (@ps_set _ _ (i:=4) _ _ _ _ sc_odd.nd rfl (by first | exact Or.inl rfl | exact Or.inr rfl) (@pe_op _ _ _ _ _ _ _ _ op_addA (pv 4) (@pe_lst _ _ _ _ (@pa_cons _ _ _ _ _ (@pe_tup _ _ _ _ _ (@pa_cons _ _ _ _ _ (@pe_str _ _ _ _) (@pa_cons _ _ _ _ _ (@pe_str _ _ _ _) (@pa_cons _ _ _ _ _ (pv 3) (@pa_cons _ _ _ _ _ (@pe_tup _ _ _ _ _ (@pa_cons _ _ _ _ _ (@pe_int _ _ _ _) (@pa_cons _ _ _ _ _ (@pe_int _ _ _ _) (@pa_nil _) (by rfl)) (by rfl))) (@pa_nil _) (by rfl)) (by rfl)) (by rfl)) (by rfl))) (@pa_cons _ _ _ _ _ (@pe_tup _ _ _ _ _ (@pa_cons _ _ _ _ _ (@pe_str _ _ _ _) (@pa_cons _ _ _ _ _ (pv 2) (@pa_cons _ _ _ _ _ (pv 3) (@pa_cons _ _ _ _ _ (@pe_tup _ _ _ _ _ (@pa_cons _ _ _ _ _ (@pe_int _ _ _ _) (@pa_cons _ _ _ _ _ (@pe_int _ _ _ _) (@pa_nil _) (by rfl)) (by rfl))) (@pa_nil _) (by rfl)) (by rfl)) (by rfl)) (by rfl))) (@pa_cons _ _ _ _ _ (@pe_tup _ _ _ _ _ (@pa_cons _ _ _ _ _ (@pe_str _ _ _ _) (@pa_cons _ _ _ _ _ (pv 2) (@pa_nil _) (by rfl)) (by rfl))) (@pa_cons _ _ _ _ _ (@pe_tup _ _ _ _ _ (@pa_cons _ _ _ _ _ (@pe_str _ _ _ _) (@pa_cons _ _ _ _ _ (pv 2) (@pa_cons _ _ _ _ _ (pv 3) (@pa_cons _ _ _ _ _ (@pe_tup _ _ _ _ _ (@pa_cons _ _ _ _ _ (@pe_int _ _ _ _) (@pa_cons _ _ _ _ _ (@pe_int _ _ _ _) (@pa_nil _) (by rfl)) (by rfl))) (@pa_nil _) (by rfl)) (by rfl)) (by rfl)) (by rfl))) (@pa_nil _) (by rfl)) (by rfl)) (by rfl)) (by rfl)))) (by rfl) (by first | exact .inl rfl | exact .inr rfl | assumption)) (@pss_cons _ _ _ _ _ (@ps_set _ _ (i:=4) _ _ _ _ sc_odd.nd rfl (by first | exact Or.inl rfl | exact Or.inr rfl) (@pe_op _ _ _ _ _ _ _ _ op_addA (pv 4) (@pe_lst _ _ _ _ (@pa_cons _ _ _ _ _ (@pe_tup _ _ _ _ _ (@pa_cons _ _ _ _ _ (@pe_str _ _ _ _) (@pa_cons _ _ _ _ _ (pv 2) (@pa_cons _ _ _ _ _ (pv 2) (@pa_nil _) (by rfl)) (by rfl)) (by rfl))) (@pa_cons _ _ _ _ _ (@pe_tup _ _ _ _ _ (@pa_cons _ _ _ _ _ (@pe_str _ _ _ _) (@pa_cons _ _ _ _ _ (pv 2) (@pa_cons _ _ _ _ _ (@pe_tup _ _ _ _ _ (@pa_cons _ _ _ _ _ (@pe_un _ _ _ _ _ _ un_neg (@pe_int _ _ _ _)) (@pa_cons _ _ _ _ _ (@pe_int _ _ _ _) (@pa_nil _) (by rfl)) (by rfl))) (@pa_nil _) (by rfl)) (by rfl)) (by rfl))) (@pa_cons _ _ _ _ _ (@pe_tup _ _ _ _ _ (@pa_cons _ _ _ _ _ (@pe_str _ _ _ _) (@pa_cons _ _ _ _ _ (pv 2) (@pa_cons _ _ _ _ _ (@pe_int _ _ _ _) (@pa_nil _) (by rfl)) (by rfl)) (by rfl))) (@pa_cons _ _ _ _ _ (@pe_tup _ _ _ _ _ (@pa_cons _ _ _ _ _ (@pe_str _ _ _ _) (@pa_cons _ _ _ _ _ (@pe_str _ _ _ _) (@pa_cons _ _ _ _ _ (@pe_tup _ _ _ _ _ (@pa_cons _ _ _ _ _ (@pe_int _ _ _ _) (@pa_cons _ _ _ _ _ (@pe_int _ _ _ _) (@pa_nil _) (by rfl)) (by rfl))) (@pa_nil _) (by rfl)) (by rfl)) (by rfl))) (@pa_cons _ _ _ _ _ (@pe_tup _ _ _ _ _ (@pa_cons _ _ _ _ _ (@pe_str _ _ _ _) (@pa_cons _ _ _ _ _ (pv 2) (@pa_nil _) (by rfl)) (by rfl))) (@pa_nil _) (by rfl)) (by rfl)) (by rfl)) (by rfl)) (by rfl)))) (by rfl) (by first | exact .inl rfl | exact .inr rfl | assumption)) (@pss_cons _ _ _ _ _ (@ps_set _ _ (i:=4) _ _ _ _ sc_odd.nd rfl (by first | exact Or.inl rfl | exact Or.inr rfl) (@pe_op _ _ _ _ _ _ _ _ op_addA (pv 4) (@pe_lst _ _ _ _ (@pa_cons _ _ _ _ _ (@pe_lst _ _ _ _ (@pa_cons _ _ _ _ _ (@pe_str _ _ _ _) (@pa_cons _ _ _ _ _ (pv 2) (@pa_cons _ _ _ _ _ (pv 3) (@pa_nil _) (by rfl)) (by rfl)) (by rfl))) (@pa_cons _ _ _ _ _ (@pe_str _ _ _ _) (@pa_cons _ _ _ _ _ (@pe_tup _ _ _ _ _ (@pa_cons _ _ _ _ _ (@pe_str _ _ _ _) (@pa_cons _ _ _ _ _ (pv 2) (@pa_cons _ _ _ _ _ (pv 3) (@pa_nil _) (by rfl)) (by rfl)) (by rfl))) (@pa_cons _ _ _ _ _ (@pe_tup _ _ _ _ _ (@pa_cons _ _ _ _ _ (@pe_str _ _ _ _) (@pa_cons _ _ _ _ _ (pv 2) (@pa_cons _ _ _ _ _ (@pe_tup _ _ _ _ _ (@pa_cons _ _ _ _ _ (@pe_bl _ _ _ _) (@pa_cons _ _ _ _ _ (@pe_int _ _ _ _) (@pa_nil _) (by rfl)) (by rfl))) (@pa_nil _) (by rfl)) (by rfl)) (by rfl))) (@pa_cons _ _ _ _ _ (@pe_tup _ _ _ _ _ (@pa_cons _ _ _ _ _ (@pe_str _ _ _ _) (@pa_cons _ _ _ _ _ (pv 2) (@pa_cons _ _ _ _ _ (pv 3) (@pa_cons _ _ _ _ _ (@pe_tup _ _ _ _ _ (@pa_cons _ _ _ _ _ (@pe_int _ _ _ _) (@pa_cons _ _ _ _ _ (@pe_un _ _ _ _ _ _ un_neg (@pe_int _ _ _ _)) (@pa_nil _) (by rfl)) (by rfl))) (@pa_nil _) (by rfl)) (by rfl)) (by rfl)) (by rfl))) (@pa_nil _) (by rfl)) (by rfl)) (by rfl)) (by rfl)) (by rfl)))) (by rfl) (by first | exact .inl rfl | exact .inr rfl | assumption)) (@pss_cons _ _ _ _ _ (@ps_set _ _ (i:=4) _ _ _ _ sc_odd.nd rfl (by first | exact Or.inl rfl | exact Or.inr rfl) (@pe_op _ _ _ _ _ _ _ _ op_addA (pv 4) (@pe_lst _ _ _ _ (@pa_cons _ _ _ _ _ (@pe_tup _ _ _ _ _ (@pa_cons _ _ _ _ _ (@pe_str _ _ _ _) (@pa_cons _ _ _ _ _ (pv 2) (@pa_cons _ _ _ _ _ (@pe_int _ _ _ _) (@pa_nil _) (by rfl)) (by rfl)) (by rfl))) (@pa_cons _ _ _ _ _ (@pe_tup _ _ _ _ _ (@pa_cons _ _ _ _ _ (@pe_int _ _ _ _) (@pa_cons _ _ _ _ _ (pv 2) (@pa_cons _ _ _ _ _ (pv 3) (@pa_nil _) (by rfl)) (by rfl)) (by rfl))) (@pa_cons _ _ _ _ _ (@pe_tup _ _ _ _ _ (@pa_cons _ _ _ _ _ (@pe_str _ _ _ _) (@pa_cons _ _ _ _ _ (@pe_str _ _ _ _) (@pa_cons _ _ _ _ _ (pv 3) (@pa_nil _) (by rfl)) (by rfl)) (by rfl))) (@pa_cons _ _ _ _ _ (@pe_tup _ _ _ _ _ (@pa_cons _ _ _ _ _ (@pe_str _ _ _ _) (@pa_cons _ _ _ _ _ (pv 2) (@pa_cons _ _ _ _ _ (@pe_tup _ _ _ _ _ (@pa_cons _ _ _ _ _ (@pe_int _ _ _ _) (@pa_cons _ _ _ _ _ (@pe_int _ _ _ _) (@pa_nil _) (by rfl)) (by rfl))) (@pa_cons _ _ _ _ _ (@pe_tup _ _ _ _ _ (@pa_cons _ _ _ _ _ (@pe_int _ _ _ _) (@pa_cons _ _ _ _ _ (@pe_int _ _ _ _) (@pa_nil _) (by rfl)) (by rfl))) (@pa_nil _) (by rfl)) (by rfl)) (by rfl)) (by rfl))) (@pa_cons _ _ _ _ _ (@pe_tup _ _ _ _ _ (@pa_cons _ _ _ _ _ (@pe_str _ _ _ _) (@pa_cons _ _ _ _ _ (@pe_lst _ _ _ _ (@pa_cons _ _ _ _ _ (pv 2) (@pa_nil _) (by rfl))) (@pa_cons _ _ _ _ _ (pv 3) (@pa_nil _) (by rfl)) (by rfl)) (by rfl))) (@pa_nil _) (by rfl)) (by rfl)) (by rfl)) (by rfl)) (by rfl)))) (by rfl) (by first | exact .inl rfl | exact .inr rfl | assumption)) (@pss_cons _ _ _ _ _ (@ps_set _ _ (i:=4) _ _ _ _ sc_odd.nd rfl (by first | exact Or.inl rfl | exact Or.inr rfl) (@pe_op _ _ _ _ _ _ _ _ op_addA (pv 4) (@pe_lst _ _ _ _ (@pa_cons _ _ _ _ _ (@pe_tup _ _ _ _ _ (@pa_cons _ _ _ _ _ (@pe_str _ _ _ _) (@pa_cons _ _ _ _ _ (pv 2) (@pa_cons _ _ _ _ _ (pv 3) (@pa_cons _ _ _ _ _ (@pe_tup _ _ _ _ _ (@pa_cons _ _ _ _ _ (@pe_int _ _ _ _) (@pa_cons _ _ _ _ _ (@pe_int _ _ _ _) (@pa_nil _) (by rfl)) (by rfl))) (@pa_nil _) (by rfl)) (by rfl)) (by rfl)) (by rfl))) (@pa_cons _ _ _ _ _ (@pe_tup _ _ _ _ _ (@pa_cons _ _ _ _ _ (@pe_str _ _ _ _) (@pa_cons _ _ _ _ _ (pv 2) (@pa_cons _ _ _ _ _ (@pe_str _ _ _ _) (@pa_cons _ _ _ _ _ (@pe_tup _ _ _ _ _ (@pa_cons _ _ _ _ _ (@pe_int _ _ _ _) (@pa_cons _ _ _ _ _ (@pe_int _ _ _ _) (@pa_nil _) (by rfl)) (by rfl))) (@pa_nil _) (by rfl)) (by rfl)) (by rfl)) (by rfl))) (@pa_cons _ _ _ _ _ (@pe_tup _ _ _ _ _ (@pa_cons _ _ _ _ _ (@pe_str _ _ _ _) (@pa_cons _ _ _ _ _ (pv 2) (@pa_cons _ _ _ _ _ (@pe_non _ _ _) (@pa_nil _) (by rfl)) (by rfl)) (by rfl))) (@pa_cons _ _ _ _ _ (@pe_tup _ _ _ _ _ (@pa_cons _ _ _ _ _ (@pe_str _ _ _ _) (@pa_cons _ _ _ _ _ (@pe_str _ _ _ _) (@pa_cons _ _ _ _ _ (pv 3) (@pa_nil _) (by rfl)) (by rfl)) (by rfl))) (@pa_nil _) (by rfl)) (by rfl)) (by rfl)) (by rfl)))) (by rfl) (by first | exact .inl rfl | exact .inr rfl | assumption)) (@pss_one _ _ _ (@ps_ret _ _ _ _ (@pe_ix _ _ _ _ _ _ _ ix_LT (@pe_op _ _ _ _ _ _ _ _ op_addA (pv 4) (@pe_lst _ _ _ _ (@pa_cons _ _ _ _ _ (@pe_tup _ _ _ _ _ (@pa_cons _ _ _ _ _ (@pe_str _ _ _ _) (@pa_cons _ _ _ _ _ (pv 2) (@pa_cons _ _ _ _ _ (@pe_str _ _ _ _) (@pa_cons _ _ _ _ _ (@pe_tup _ _ _ _ _ (@pa_cons _ _ _ _ _ (@pe_int _ _ _ _) (@pa_cons _ _ _ _ _ (@pe_int _ _ _ _) (@pa_nil _) (by rfl)) (by rfl))) (@pa_nil _) (by rfl)) (by rfl)) (by rfl)) (by rfl))) (@pa_cons _ _ _ _ _ (@pe_tup _ _ _ _ _ (@pa_cons _ _ _ _ _ (@pe_str _ _ _ _) (@pa_cons _ _ _ _ _ (@pe_str _ _ _ _) (@pa_cons _ _ _ _ _ (@pe_tup _ _ _ _ _ (@pa_cons _ _ _ _ _ (@pe_int _ _ _ _) (@pa_cons _ _ _ _ _ (@pe_int _ _ _ _) (@pa_nil _) (by rfl)) (by rfl))) (@pa_nil _) (by rfl)) (by rfl)) (by rfl))) (@pa_cons _ _ _ _ _ (@pe_tup _ _ _ _ _ (@pa_cons _ _ _ _ _ (@pe_str _ _ _ _) (@pa_cons _ _ _ _ _ (@pe_str _ _ _ _) (@pa_cons _ _ _ _ _ (@pe_tup _ _ _ _ _ (@pa_cons _ _ _ _ _ (@pe_int _ _ _ _) (@pa_cons _ _ _ _ _ (@pe_int _ _ _ _) (@pa_nil _) (by rfl)) (by rfl))) (@pa_nil _) (by rfl)) (by rfl)) (by rfl))) (@pa_nil _) (by rfl)) (by rfl)) (by rfl)))) (@pe_op _ _ _ _ _ _ _ _ op_mod (pv 0) (@pe_int _ _ _ _)) (fun _ _ => rfl)))))))))))),?_⟩
    obtain ⟨m,em⟩:∃ m:Nat,m = U.length:=⟨_,rfl⟩
    have hml:(U.map V.str).length = m:=by rw [List.length_map,em]
    walk_at "go"
    rw [hml]
    obtain ⟨i,sa,hi,ei⟩:∃ i:Nat,∃ x,U[i]? = some x /\ n.fdiv 32 % (m:Int) = (i:Int):=by
      have h1:=Int.emod_nonneg (n.fdiv 32) (show (m:Int) ≠ 0 by omega)
      have h2:=Int.emod_lt_of_pos (n.fdiv 32) (show 0 < (m:Int) by omega)
      exact ⟨(n.fdiv 32 % (m:Int)).toNat,_,List.getElem?_eq_getElem (by omega),by omega⟩
    obtain ⟨j,sb,hj,ej⟩:∃ j:Nat,∃ x,U[j]? = some x /\ (n.fdiv 32 + 1) % (m:Int) = (j:Int):=by
      have h1:=Int.emod_nonneg (n.fdiv 32 + 1) (show (m:Int) ≠ 0 by omega)
      have h2:=Int.emod_lt_of_pos (n.fdiv 32 + 1) (show 0 < (m:Int) by omega)
      exact ⟨((n.fdiv 32 + 1) % (m:Int)).toNat,_,List.getElem?_eq_getElem (by omega),by omega⟩
    have hij:i ≠ j:=fun e => by
      rw [e] at ei
      have h1:=Int.emod_add_mul_ediv (n.fdiv 32) (m:Int)
      have h2:=Int.emod_add_mul_ediv (n.fdiv 32 + 1) (m:Int)
      rw [ei] at h1
      rw [ej] at h2
      exact odd_ne (by omega) (h1.symm ▸ h2)
    have ha:PostS sa:=hU _ (List.mem_of_getElem? hi)
    have hb:PostS sb:=hU _ (List.mem_of_getElem? hj)
    have hab:sa ≠ sb:=fun e => hij ((List.getElem?_inj (List.getElem?_eq_some_iff.mp hi).1 nd).mp (by rw [hi,hj,e]))
    rw [ei]
    refine r_ixl hl (atI_nat (by rw [List.getElem?_map,hi]; rfl)) ?_
    walk_at "go"
    rw [hml,ej]
    refine r_ixl hl (atI_nat (by rw [List.getElem?_map,hj]; rfl)) ?_
    have S0:=Same.refl H
    walk_at "go"
    refine r_tupN fun p1 G1 n1 s1 g1 => ?_
    have S1:=S0.trans s1
    have h1:=S0.free n1
    walk_at "go"
    refine r_tupN fun p2 G2 n2 s2 g2 => ?_
    have S2:=S1.trans s2
    have h2:=S1.free n2
    walk_at "go"
    refine r_tupN fun p3 G3 n3 s3 g3 => ?_
    have S3:=S2.trans s3
    have h3:=S2.free n3
    walk_at "go"
    refine r_tupN fun p4 G4 n4 s4 g4 => ?_
    have S4:=S3.trans s4
    have h4:=S3.free n4
    walk_at "go"
    refine r_tupN fun p5 G5 n5 s5 g5 => ?_
    have S5:=S4.trans s5
    have h5:=S4.free n5
    walk_at "go"
    refine r_tupN fun p6 G6 n6 s6 g6 => ?_
    have S6:=S5.trans s6
    have h6:=S5.free n6
    walk_at "go"
    refine r_tupN fun p7 G7 n7 s7 g7 => ?_
    have S7:=S6.trans s7
    have h7:=S6.free n7
    have t7:=Same.refl G7
    have t6:=s7.trans t7
    have t5:=s6.trans t6
    have t4:=s5.trans t5
    have t3:=s4.trans t4
    have t2:=s3.trans t3
    have t1:=s2.trans t2
    have t0:=s1.trans t1
    walk_at "go"
    refine r_lstP (P:=OddN K H G7) 6 rfl (by decide) (fun v hv G nk => ?_) fun lb Gb yb sb0 gb hlb hpb => ?_
    . have f1:=nk _ _ h1 (t1 _ _ g1)
      have f2:=nk _ _ h2 (t2 _ _ g2)
      have f3:=nk _ _ h3 (t3 _ _ g3)
      have f4:=nk _ _ h4 (t4 _ _ g4)
      have f5:=nk _ _ h5 (t5 _ _ g5)
      have f6:=nk _ _ h6 (t6 _ _ g6)
      have f7:=nk _ _ h7 (t7 _ _ g7)
      simp only [List.mem_cons,List.not_mem_nil,or_false] at hv
      rcases hv with rfl | rfl | rfl | rfl | rfl | rfl
      . exact ⟨.nt .non,(.non),rfl,by simp [dep,depL]⟩
      . exact ⟨.len f1 (by simp) (by simp),(.tup []),⟨_,_,rfl,f1,rfl⟩,by simp [dep,depL]⟩
      . exact ⟨.wit0 f2 (by decide +kernel) (by decide +kernel),(.tup [(.str "after"),(.str sa),(.str sb)]),⟨_,_,rfl,f2,⟨_,_,rfl,rfl,⟨_,_,rfl,rfl,⟨_,_,rfl,rfl,rfl⟩⟩⟩⟩,by simp [dep,depL]⟩
      . exact ⟨.nop f4 (.inl rfl) (pq_f ha),(.tup [(.str "after"),(.str sa),(.str sa),(.tup [(.int (1)),(.int (2))])]),⟨_,_,rfl,f4,⟨_,_,rfl,rfl,⟨_,_,rfl,rfl,⟨_,_,rfl,rfl,⟨_,_,rfl,⟨_,_,rfl,f3,⟨_,_,rfl,rfl,⟨_,_,rfl,rfl,rfl⟩⟩⟩,rfl⟩⟩⟩⟩⟩,by simp [dep,depL]⟩
      . exact ⟨.frac f6 (.inl rfl) (pq_t ha hb hab) (fun H' s' => fq_no (s' _ _ f5) rfl rfl rfl rfl),(.tup [(.str "after"),(.str sa),(.str sb),(.tup [(.int (2)),(.int (4))])]),⟨_,_,rfl,f6,⟨_,_,rfl,rfl,⟨_,_,rfl,rfl,⟨_,_,rfl,rfl,⟨_,_,rfl,⟨_,_,rfl,f5,⟨_,_,rfl,rfl,⟨_,_,rfl,rfl,rfl⟩⟩⟩,rfl⟩⟩⟩⟩⟩,by simp [dep,depL]⟩
      . exact ⟨.frac f7 (.inl rfl) (pq_t ha hb hab) (fun H' s' => .inl ⟨.int _,rfl⟩),(.tup [(.str "after"),(.str sa),(.str sb),(.int (1))]),⟨_,_,rfl,f7,⟨_,_,rfl,rfl,⟨_,_,rfl,rfl,⟨_,_,rfl,rfl,⟨_,_,rfl,rfl,rfl⟩⟩⟩⟩⟩,by simp [dep,depL]⟩
    replace hpb:∀ v ∈ yb,OddN K H Gb v:=fun v hv => (hpb v hv).sm sb0
    have sX:=t0.trans sb0
    clear t0 t1 t2 t3 t4 t5 t6 t7 g1 s1 h1 n1 S1 g2 s2 h2 n2 S2 g3 s3 h3 n3 S3 g4 s4 h4 n4 S4 g5 s5 h5 n5 S5 g6 s6 h6 n6 S6 g7 s7 h7 n7 S7 sb0 S0
    have sA:=sX
    clear sX
    generalize yb = y0 at gb hlb hpb
    generalize lb = l0 at gb ⊢
    generalize Gb = K0 at gb hpb sA ⊢
    have g0:=gb
    have hl0:=hlb
    have hp0:=hpb
    clear gb hlb hpb
    have S0:=sA
    walk_at "go"
    refine r_tupN fun p1 G1 n1 s1 g1 => ?_
    have S1:=S0.trans s1
    have h1:=S0.free n1
    walk_at "go"
    refine r_tupN fun p2 G2 n2 s2 g2 => ?_
    have S2:=S1.trans s2
    have h2:=S1.free n2
    walk_at "go"
    refine r_tupN fun p3 G3 n3 s3 g3 => ?_
    have S3:=S2.trans s3
    have h3:=S2.free n3
    walk_at "go"
    refine r_tupN fun p4 G4 n4 s4 g4 => ?_
    have S4:=S3.trans s4
    have h4:=S3.free n4
    walk_at "go"
    refine r_tupN fun p5 G5 n5 s5 g5 => ?_
    have S5:=S4.trans s5
    have h5:=S4.free n5
    walk_at "go"
    refine r_tupN fun p6 G6 n6 s6 g6 => ?_
    have S6:=S5.trans s6
    have h6:=S5.free n6
    walk_at "go"
    refine r_tupN fun p7 G7 n7 s7 g7 => ?_
    have S7:=S6.trans s7
    have h7:=S6.free n7
    have t7:=Same.refl G7
    have t6:=s7.trans t7
    have t5:=s6.trans t6
    have t4:=s5.trans t5
    have t3:=s4.trans t4
    have t2:=s3.trans t3
    have t1:=s2.trans t2
    have t0:=s1.trans t1
    walk_at "go"
    refine r_lstP (P:=OddN K H G7) 4 rfl (by decide) (fun v hv G nk => ?_) fun lb Gb yb sb0 gb hlb hpb => ?_
    . have f1:=nk _ _ h1 (t1 _ _ g1)
      have f2:=nk _ _ h2 (t2 _ _ g2)
      have f3:=nk _ _ h3 (t3 _ _ g3)
      have f4:=nk _ _ h4 (t4 _ _ g4)
      have f5:=nk _ _ h5 (t5 _ _ g5)
      have f6:=nk _ _ h6 (t6 _ _ g6)
      have f7:=nk _ _ h7 (t7 _ _ g7)
      simp only [List.mem_cons,List.not_mem_nil,or_false] at hv
      rcases hv with rfl | rfl | rfl | rfl
      . exact ⟨.nop f2 (.inl rfl) (.one (.inl ⟨_,rfl,by decide +kernel,by decide +kernel⟩)),(.tup [(.str "after"),(.str "A"),(.str sb),(.tup [(.int (1)),(.int (1))])]),⟨_,_,rfl,f2,⟨_,_,rfl,rfl,⟨_,_,rfl,rfl,⟨_,_,rfl,rfl,⟨_,_,rfl,⟨_,_,rfl,f1,⟨_,_,rfl,rfl,⟨_,_,rfl,rfl,rfl⟩⟩⟩,rfl⟩⟩⟩⟩⟩,by simp [dep,depL]⟩
      . exact ⟨.frac f4 (.inr rfl) (pq_t ha hb hab) (fun H' s' => fq_no (s' _ _ f3) rfl rfl rfl rfl),(.tup [(.str "within"),(.str sa),(.str sb),(.tup [(.int (1)),(.int (0))])]),⟨_,_,rfl,f4,⟨_,_,rfl,rfl,⟨_,_,rfl,rfl,⟨_,_,rfl,rfl,⟨_,_,rfl,⟨_,_,rfl,f3,⟨_,_,rfl,rfl,⟨_,_,rfl,rfl,rfl⟩⟩⟩,rfl⟩⟩⟩⟩⟩,by simp [dep,depL]⟩
      . exact ⟨.len f5 (by simp) (by simp),(.tup [(.str "with"),(.str sa)]),⟨_,_,rfl,f5,⟨_,_,rfl,rfl,⟨_,_,rfl,rfl,rfl⟩⟩⟩,by simp [dep,depL]⟩
      . exact ⟨.four f7 (by decide +kernel) (by decide +kernel),(.tup [(.str "with"),(.str sa),(.str sb),(.tup [(.int (0)),(.int (1))])]),⟨_,_,rfl,f7,⟨_,_,rfl,rfl,⟨_,_,rfl,rfl,⟨_,_,rfl,rfl,⟨_,_,rfl,⟨_,_,rfl,f6,⟨_,_,rfl,rfl,⟨_,_,rfl,rfl,rfl⟩⟩⟩,rfl⟩⟩⟩⟩⟩,by simp [dep,depL]⟩
    replace hpb:∀ v ∈ yb,OddN K H Gb v:=fun v hv => (hpb v hv).sm sb0
    have sX:=t0.trans sb0
    clear t0 t1 t2 t3 t4 t5 t6 t7 g1 s1 h1 n1 S1 g2 s2 h2 n2 S2 g3 s3 h3 n3 S3 g4 s4 h4 n4 S4 g5 s5 h5 n5 S5 g6 s6 h6 n6 S6 g7 s7 h7 n7 S7 sb0 S0
    refine a_lst (sX _ _ g0) gb (by omega) fun lc hlc => ?_
    have sc:=Same.new (o:=.lst (y0 ++ yb)) hlc
    have gc:=upd_same (H:=Gb) (a:=lc) (o:=.lst (y0 ++ yb))
    generalize L2.upd Gb lc (.lst (y0 ++ yb)) = Gc at sc gc ⊢
    have hpc:∀ v ∈ y0 ++ yb,OddN K H Gc v:=fun v hv => (List.mem_append.mp hv).elim (fun h => (hp0 v h).sm (sX.trans sc)) (fun h => (hpb v h).sm sc)
    have hlc':(y0 ++ yb).length = 10:=by rw [List.length_append]; omega
    generalize y0 ++ yb = yc at gc hpc hlc'
    replace sA:=(sA.trans sX).trans sc
    clear sX sc hpb hlb gb hlc g0 hl0 hp0
    clear y0 yb
    have g0:=gc
    have hl0:=hlc'
    have hp0:=hpc
    clear gc hlc' hpc
    generalize yc = y0 at g0 hl0 hp0
    generalize lc = l1 at g0 ⊢
    generalize Gc = K1 at g0 hp0 sA ⊢
    have S0:=sA
    walk_at "go"
    refine r_tupN fun p1 G1 n1 s1 g1 => ?_
    have S1:=S0.trans s1
    have h1:=S0.free n1
    walk_at "go"
    refine r_tupN fun p2 G2 n2 s2 g2 => ?_
    have S2:=S1.trans s2
    have h2:=S1.free n2
    walk_at "go"
    refine r_tupN fun p3 G3 n3 s3 g3 => ?_
    have S3:=S2.trans s3
    have h3:=S2.free n3
    walk_at "go"
    refine r_tupN fun p4 G4 n4 s4 g4 => ?_
    have S4:=S3.trans s4
    have h4:=S3.free n4
    walk_at "go"
    refine r_tupN fun p5 G5 n5 s5 g5 => ?_
    have S5:=S4.trans s5
    have h5:=S4.free n5
    walk_at "go"
    refine r_tupN fun p6 G6 n6 s6 g6 => ?_
    have S6:=S5.trans s6
    have h6:=S5.free n6
    walk_at "go"
    refine r_tupN fun p7 G7 n7 s7 g7 => ?_
    have S7:=S6.trans s7
    have h7:=S6.free n7
    have t7:=Same.refl G7
    have t6:=s7.trans t7
    have t5:=s6.trans t6
    have t4:=s5.trans t5
    have t3:=s4.trans t4
    have t2:=s3.trans t3
    have t1:=s2.trans t2
    have t0:=s1.trans t1
    walk_at "go"
    refine r_lstP (P:=OddN K H G7) 5 rfl (by decide) (fun v hv G nk => ?_) fun lb Gb yb sb0 gb hlb hpb => ?_
    . have f1:=nk _ _ h1 (t1 _ _ g1)
      have f2:=nk _ _ h2 (t2 _ _ g2)
      have f3:=nk _ _ h3 (t3 _ _ g3)
      have f4:=nk _ _ h4 (t4 _ _ g4)
      have f5:=nk _ _ h5 (t5 _ _ g5)
      have f6:=nk _ _ h6 (t6 _ _ g6)
      have f7:=nk _ _ h7 (t7 _ _ g7)
      simp only [List.mem_cons,List.not_mem_nil,or_false] at hv
      rcases hv with rfl | rfl | rfl | rfl | rfl
      . exact ⟨.wit f1 (pq_f ha),(.tup [(.str "with"),(.str sa),(.str sa)]),⟨_,_,rfl,f1,⟨_,_,rfl,rfl,⟨_,_,rfl,rfl,⟨_,_,rfl,rfl,rfl⟩⟩⟩⟩,by simp [dep,depL]⟩
      . exact ⟨.frm f3 ha.q (fun H' s' => mq_neg (s' _ _ f2)),(.tup [(.str "from"),(.str sa),(.tup [(.int (-1)),(.int (2))])]),⟨_,_,rfl,f3,⟨_,_,rfl,rfl,⟨_,_,rfl,rfl,⟨_,_,rfl,⟨_,_,rfl,f2,⟨_,_,rfl,rfl,⟨_,_,rfl,rfl,rfl⟩⟩⟩,rfl⟩⟩⟩⟩,by simp [dep,depL]⟩
      . exact ⟨.frm f4 ha.q (fun H' s' => .no (.inl ⟨.int _,rfl⟩)),(.tup [(.str "from"),(.str sa),(.int (1))]),⟨_,_,rfl,f4,⟨_,_,rfl,rfl,⟨_,_,rfl,rfl,⟨_,_,rfl,rfl,rfl⟩⟩⟩⟩,by simp [dep,depL]⟩
      . exact ⟨.frm0 f6 (.inl ⟨_,rfl,by decide +kernel,by decide +kernel⟩),(.tup [(.str "from"),(.str "a..b"),(.tup [(.int (0)),(.int (1))])]),⟨_,_,rfl,f6,⟨_,_,rfl,rfl,⟨_,_,rfl,rfl,⟨_,_,rfl,⟨_,_,rfl,f5,⟨_,_,rfl,rfl,⟨_,_,rfl,rfl,rfl⟩⟩⟩,rfl⟩⟩⟩⟩,by simp [dep,depL]⟩
      . exact ⟨.len f7 (by simp) (by simp),(.tup [(.str "from"),(.str sa)]),⟨_,_,rfl,f7,⟨_,_,rfl,rfl,⟨_,_,rfl,rfl,rfl⟩⟩⟩,by simp [dep,depL]⟩
    replace hpb:∀ v ∈ yb,OddN K H Gb v:=fun v hv => (hpb v hv).sm sb0
    have sX:=t0.trans sb0
    clear t0 t1 t2 t3 t4 t5 t6 t7 g1 s1 h1 n1 S1 g2 s2 h2 n2 S2 g3 s3 h3 n3 S3 g4 s4 h4 n4 S4 g5 s5 h5 n5 S5 g6 s6 h6 n6 S6 g7 s7 h7 n7 S7 sb0 S0
    refine a_lst (sX _ _ g0) gb (by omega) fun lc hlc => ?_
    have sc:=Same.new (o:=.lst (y0 ++ yb)) hlc
    have gc:=upd_same (H:=Gb) (a:=lc) (o:=.lst (y0 ++ yb))
    generalize L2.upd Gb lc (.lst (y0 ++ yb)) = Gc at sc gc ⊢
    have hpc:∀ v ∈ y0 ++ yb,OddN K H Gc v:=fun v hv => (List.mem_append.mp hv).elim (fun h => (hp0 v h).sm (sX.trans sc)) (fun h => (hpb v h).sm sc)
    have hlc':(y0 ++ yb).length = 15:=by rw [List.length_append]; omega
    generalize y0 ++ yb = yc at gc hpc hlc'
    replace sA:=(sA.trans sX).trans sc
    clear sX sc hpb hlb gb hlc g0 hl0 hp0
    clear y0 yb
    have g0:=gc
    have hl0:=hlc'
    have hp0:=hpc
    clear gc hlc' hpc
    generalize yc = y0 at g0 hl0 hp0
    generalize lc = l2 at g0 ⊢
    generalize Gc = K2 at g0 hp0 sA ⊢
    have S0:=sA
    walk_at "go"
    refine r_lstN fun p1 G1 n1 s1 g1 => ?_
    have S1:=S0.trans s1
    have h1:=S0.free n1
    walk_at "go"
    refine r_tupN fun p2 G2 n2 s2 g2 => ?_
    have S2:=S1.trans s2
    have h2:=S1.free n2
    walk_at "go"
    refine r_tupN fun p3 G3 n3 s3 g3 => ?_
    have S3:=S2.trans s3
    have h3:=S2.free n3
    walk_at "go"
    refine r_tupN fun p4 G4 n4 s4 g4 => ?_
    have S4:=S3.trans s4
    have h4:=S3.free n4
    walk_at "go"
    refine r_tupN fun p5 G5 n5 s5 g5 => ?_
    have S5:=S4.trans s5
    have h5:=S4.free n5
    walk_at "go"
    refine r_tupN fun p6 G6 n6 s6 g6 => ?_
    have S6:=S5.trans s6
    have h6:=S5.free n6
    have t6:=Same.refl G6
    have t5:=s6.trans t6
    have t4:=s5.trans t5
    have t3:=s4.trans t4
    have t2:=s3.trans t3
    have t1:=s2.trans t2
    have t0:=s1.trans t1
    walk_at "go"
    refine r_lstP (P:=OddN K H G6) 5 rfl (by decide) (fun v hv G nk => ?_) fun lb Gb yb sb0 gb hlb hpb => ?_
    . have f1:=nk _ _ h1 (t1 _ _ g1)
      have f2:=nk _ _ h2 (t2 _ _ g2)
      have f3:=nk _ _ h3 (t3 _ _ g3)
      have f4:=nk _ _ h4 (t4 _ _ g4)
      have f5:=nk _ _ h5 (t5 _ _ g5)
      have f6:=nk _ _ h6 (t6 _ _ g6)
      simp only [List.mem_cons,List.not_mem_nil,or_false] at hv
      rcases hv with rfl | rfl | rfl | rfl | rfl
      . exact ⟨.nt (.lst f1),(.lst [(.str "with"),(.str sa),(.str sb)]),⟨_,_,rfl,f1,⟨_,_,rfl,rfl,⟨_,_,rfl,rfl,⟨_,_,rfl,rfl,rfl⟩⟩⟩⟩,by simp [dep,depL]⟩
      . exact ⟨.nt (.str _),(.str "with"),rfl,by simp [dep,depL]⟩
      . exact ⟨.wit0 f2 (by decide +kernel) (by decide +kernel),(.tup [(.str "then"),(.str sa),(.str sb)]),⟨_,_,rfl,f2,⟨_,_,rfl,rfl,⟨_,_,rfl,rfl,⟨_,_,rfl,rfl,rfl⟩⟩⟩⟩,by simp [dep,depL]⟩
      . exact ⟨.frm f4 ha.q (fun H' s' => .no (fq_no (s' _ _ f3) rfl rfl rfl rfl)),(.tup [(.str "from"),(.str sa),(.tup [(.bl true),(.int (1))])]),⟨_,_,rfl,f4,⟨_,_,rfl,rfl,⟨_,_,rfl,rfl,⟨_,_,rfl,⟨_,_,rfl,f3,⟨_,_,rfl,rfl,⟨_,_,rfl,rfl,rfl⟩⟩⟩,rfl⟩⟩⟩⟩,by simp [dep,depL]⟩
      . exact ⟨.frac f6 (.inl rfl) (pq_t ha hb hab) (fun H' s' => fq_no (s' _ _ f5) rfl rfl rfl rfl),(.tup [(.str "after"),(.str sa),(.str sb),(.tup [(.int (1)),(.int (-1))])]),⟨_,_,rfl,f6,⟨_,_,rfl,rfl,⟨_,_,rfl,rfl,⟨_,_,rfl,rfl,⟨_,_,rfl,⟨_,_,rfl,f5,⟨_,_,rfl,rfl,⟨_,_,rfl,rfl,rfl⟩⟩⟩,rfl⟩⟩⟩⟩⟩,by simp [dep,depL]⟩
    replace hpb:∀ v ∈ yb,OddN K H Gb v:=fun v hv => (hpb v hv).sm sb0
    have sX:=t0.trans sb0
    clear t0 t1 t2 t3 t4 t5 t6 g1 s1 h1 n1 S1 g2 s2 h2 n2 S2 g3 s3 h3 n3 S3 g4 s4 h4 n4 S4 g5 s5 h5 n5 S5 g6 s6 h6 n6 S6 sb0 S0
    refine a_lst (sX _ _ g0) gb (by omega) fun lc hlc => ?_
    have sc:=Same.new (o:=.lst (y0 ++ yb)) hlc
    have gc:=upd_same (H:=Gb) (a:=lc) (o:=.lst (y0 ++ yb))
    generalize L2.upd Gb lc (.lst (y0 ++ yb)) = Gc at sc gc ⊢
    have hpc:∀ v ∈ y0 ++ yb,OddN K H Gc v:=fun v hv => (List.mem_append.mp hv).elim (fun h => (hp0 v h).sm (sX.trans sc)) (fun h => (hpb v h).sm sc)
    have hlc':(y0 ++ yb).length = 20:=by rw [List.length_append]; omega
    generalize y0 ++ yb = yc at gc hpc hlc'
    replace sA:=(sA.trans sX).trans sc
    clear sX sc hpb hlb gb hlc g0 hl0 hp0
    clear y0 yb
    have g0:=gc
    have hl0:=hlc'
    have hp0:=hpc
    clear gc hlc' hpc
    generalize yc = y0 at g0 hl0 hp0
    generalize lc = l3 at g0 ⊢
    generalize Gc = K3 at g0 hp0 sA ⊢
    have S0:=sA
    walk_at "go"
    refine r_tupN fun p1 G1 n1 s1 g1 => ?_
    have S1:=S0.trans s1
    have h1:=S0.free n1
    walk_at "go"
    refine r_tupN fun p2 G2 n2 s2 g2 => ?_
    have S2:=S1.trans s2
    have h2:=S1.free n2
    walk_at "go"
    refine r_tupN fun p3 G3 n3 s3 g3 => ?_
    have S3:=S2.trans s3
    have h3:=S2.free n3
    walk_at "go"
    refine r_tupN fun p4 G4 n4 s4 g4 => ?_
    have S4:=S3.trans s4
    have h4:=S3.free n4
    walk_at "go"
    refine r_tupN fun p5 G5 n5 s5 g5 => ?_
    have S5:=S4.trans s5
    have h5:=S4.free n5
    walk_at "go"
    refine r_tupN fun p6 G6 n6 s6 g6 => ?_
    have S6:=S5.trans s6
    have h6:=S5.free n6
    walk_at "go"
    refine r_lstN fun p7 G7 n7 s7 g7 => ?_
    have S7:=S6.trans s7
    have h7:=S6.free n7
    walk_at "go"
    refine r_tupN fun p8 G8 n8 s8 g8 => ?_
    have S8:=S7.trans s8
    have h8:=S7.free n8
    have t8:=Same.refl G8
    have t7:=s8.trans t8
    have t6:=s7.trans t7
    have t5:=s6.trans t6
    have t4:=s5.trans t5
    have t3:=s4.trans t4
    have t2:=s3.trans t3
    have t1:=s2.trans t2
    have t0:=s1.trans t1
    walk_at "go"
    refine r_lstP (P:=OddN K H G8) 5 rfl (by decide) (fun v hv G nk => ?_) fun lb Gb yb sb0 gb hlb hpb => ?_
    . have f1:=nk _ _ h1 (t1 _ _ g1)
      have f2:=nk _ _ h2 (t2 _ _ g2)
      have f3:=nk _ _ h3 (t3 _ _ g3)
      have f4:=nk _ _ h4 (t4 _ _ g4)
      have f5:=nk _ _ h5 (t5 _ _ g5)
      have f6:=nk _ _ h6 (t6 _ _ g6)
      have f7:=nk _ _ h7 (t7 _ _ g7)
      have f8:=nk _ _ h8 (t8 _ _ g8)
      simp only [List.mem_cons,List.not_mem_nil,or_false] at hv
      rcases hv with rfl | rfl | rfl | rfl | rfl
      . exact ⟨.wit f1 (.two ha.q (.inr ⟨.int _,rfl⟩)),(.tup [(.str "with"),(.str sa),(.int (5))]),⟨_,_,rfl,f1,⟨_,_,rfl,rfl,⟨_,_,rfl,rfl,⟨_,_,rfl,rfl,rfl⟩⟩⟩⟩,by simp [dep,depL]⟩
      . exact ⟨.no3 f2 (.int _),(.tup [(.int (5)),(.str sa),(.str sb)]),⟨_,_,rfl,f2,⟨_,_,rfl,rfl,⟨_,_,rfl,rfl,⟨_,_,rfl,rfl,rfl⟩⟩⟩⟩,by simp [dep,depL]⟩
      . exact ⟨.wit f3 (.one (.inl ⟨_,rfl,by decide +kernel,by decide +kernel⟩)),(.tup [(.str "with"),(.str "a.b.c.d.e"),(.str sb)]),⟨_,_,rfl,f3,⟨_,_,rfl,rfl,⟨_,_,rfl,rfl,⟨_,_,rfl,rfl,rfl⟩⟩⟩⟩,by simp [dep,depL]⟩
      . exact ⟨.four f6 (by decide +kernel) (by decide +kernel),(.tup [(.str "from"),(.str sa),(.tup [(.int (0)),(.int (1))]),(.tup [(.int (0)),(.int (1))])]),⟨_,_,rfl,f6,⟨_,_,rfl,rfl,⟨_,_,rfl,rfl,⟨_,_,rfl,⟨_,_,rfl,f4,⟨_,_,rfl,rfl,⟨_,_,rfl,rfl,rfl⟩⟩⟩,⟨_,_,rfl,⟨_,_,rfl,f5,⟨_,_,rfl,rfl,⟨_,_,rfl,rfl,rfl⟩⟩⟩,rfl⟩⟩⟩⟩⟩,by simp [dep,depL]⟩
      . exact ⟨.wit f8 (.one (.inr ⟨.lst f7,rfl⟩)),(.tup [(.str "with"),(.lst [(.str sa)]),(.str sb)]),⟨_,_,rfl,f8,⟨_,_,rfl,rfl,⟨_,_,rfl,⟨_,_,rfl,f7,⟨_,_,rfl,rfl,rfl⟩⟩,⟨_,_,rfl,rfl,rfl⟩⟩⟩⟩,by simp [dep,depL]⟩
    replace hpb:∀ v ∈ yb,OddN K H Gb v:=fun v hv => (hpb v hv).sm sb0
    have sX:=t0.trans sb0
    clear t0 t1 t2 t3 t4 t5 t6 t7 t8 g1 s1 h1 n1 S1 g2 s2 h2 n2 S2 g3 s3 h3 n3 S3 g4 s4 h4 n4 S4 g5 s5 h5 n5 S5 g6 s6 h6 n6 S6 g7 s7 h7 n7 S7 g8 s8 h8 n8 S8 sb0 S0
    refine a_lst (sX _ _ g0) gb (by omega) fun lc hlc => ?_
    have sc:=Same.new (o:=.lst (y0 ++ yb)) hlc
    have gc:=upd_same (H:=Gb) (a:=lc) (o:=.lst (y0 ++ yb))
    generalize L2.upd Gb lc (.lst (y0 ++ yb)) = Gc at sc gc ⊢
    have hpc:∀ v ∈ y0 ++ yb,OddN K H Gc v:=fun v hv => (List.mem_append.mp hv).elim (fun h => (hp0 v h).sm (sX.trans sc)) (fun h => (hpb v h).sm sc)
    have hlc':(y0 ++ yb).length = 25:=by rw [List.length_append]; omega
    generalize y0 ++ yb = yc at gc hpc hlc'
    replace sA:=(sA.trans sX).trans sc
    clear sX sc hpb hlb gb hlc g0 hl0 hp0
    clear y0 yb
    have g0:=gc
    have hl0:=hlc'
    have hp0:=hpc
    clear gc hlc' hpc
    generalize yc = y0 at g0 hl0 hp0
    generalize lc = l4 at g0 ⊢
    generalize Gc = K4 at g0 hp0 sA ⊢
    have S0:=sA
    walk_at "go"
    refine r_tupN fun p1 G1 n1 s1 g1 => ?_
    have S1:=S0.trans s1
    have h1:=S0.free n1
    walk_at "go"
    refine r_tupN fun p2 G2 n2 s2 g2 => ?_
    have S2:=S1.trans s2
    have h2:=S1.free n2
    walk_at "go"
    refine r_tupN fun p3 G3 n3 s3 g3 => ?_
    have S3:=S2.trans s3
    have h3:=S2.free n3
    walk_at "go"
    refine r_tupN fun p4 G4 n4 s4 g4 => ?_
    have S4:=S3.trans s4
    have h4:=S3.free n4
    walk_at "go"
    refine r_tupN fun p5 G5 n5 s5 g5 => ?_
    have S5:=S4.trans s5
    have h5:=S4.free n5
    walk_at "go"
    refine r_tupN fun p6 G6 n6 s6 g6 => ?_
    have S6:=S5.trans s6
    have h6:=S5.free n6
    have t6:=Same.refl G6
    have t5:=s6.trans t6
    have t4:=s5.trans t5
    have t3:=s4.trans t4
    have t2:=s3.trans t3
    have t1:=s2.trans t2
    have t0:=s1.trans t1
    walk_at "go"
    refine r_lstP (P:=OddN K H G6) 4 rfl (by decide) (fun v hv G nk => ?_) fun lb Gb yb sb0 gb hlb hpb => ?_
    . have f1:=nk _ _ h1 (t1 _ _ g1)
      have f2:=nk _ _ h2 (t2 _ _ g2)
      have f3:=nk _ _ h3 (t3 _ _ g3)
      have f4:=nk _ _ h4 (t4 _ _ g4)
      have f5:=nk _ _ h5 (t5 _ _ g5)
      have f6:=nk _ _ h6 (t6 _ _ g6)
      simp only [List.mem_cons,List.not_mem_nil,or_false] at hv
      rcases hv with rfl | rfl | rfl | rfl
      . exact ⟨.frac f2 (.inr rfl) (pq_t ha hb hab) (fun H' s' => fq_no (s' _ _ f1) rfl rfl rfl rfl),(.tup [(.str "within"),(.str sa),(.str sb),(.tup [(.int (0)),(.int (2))])]),⟨_,_,rfl,f2,⟨_,_,rfl,rfl,⟨_,_,rfl,rfl,⟨_,_,rfl,rfl,⟨_,_,rfl,⟨_,_,rfl,f1,⟨_,_,rfl,rfl,⟨_,_,rfl,rfl,rfl⟩⟩⟩,rfl⟩⟩⟩⟩⟩,by simp [dep,depL]⟩
      . exact ⟨.nop f4 (.inl rfl) (.two ha.q (.inl ⟨_,rfl,by decide +kernel,by decide +kernel⟩)),(.tup [(.str "after"),(.str sa),(.str "abcdefghi"),(.tup [(.int (1)),(.int (1))])]),⟨_,_,rfl,f4,⟨_,_,rfl,rfl,⟨_,_,rfl,rfl,⟨_,_,rfl,rfl,⟨_,_,rfl,⟨_,_,rfl,f3,⟨_,_,rfl,rfl,⟨_,_,rfl,rfl,rfl⟩⟩⟩,rfl⟩⟩⟩⟩⟩,by simp [dep,depL]⟩
      . exact ⟨.frm f5 ha.q (fun H' s' => .no (.inl ⟨.non,rfl⟩)),(.tup [(.str "from"),(.str sa),(.non)]),⟨_,_,rfl,f5,⟨_,_,rfl,rfl,⟨_,_,rfl,rfl,⟨_,_,rfl,rfl,rfl⟩⟩⟩⟩,by simp [dep,depL]⟩
      . exact ⟨.wit f6 (.one (.inl ⟨_,rfl,by decide +kernel,by decide +kernel⟩)),(.tup [(.str "with"),(.str "a1"),(.str sb)]),⟨_,_,rfl,f6,⟨_,_,rfl,rfl,⟨_,_,rfl,rfl,⟨_,_,rfl,rfl,rfl⟩⟩⟩⟩,by simp [dep,depL]⟩
    replace hpb:∀ v ∈ yb,OddN K H Gb v:=fun v hv => (hpb v hv).sm sb0
    have sX:=t0.trans sb0
    clear t0 t1 t2 t3 t4 t5 t6 g1 s1 h1 n1 S1 g2 s2 h2 n2 S2 g3 s3 h3 n3 S3 g4 s4 h4 n4 S4 g5 s5 h5 n5 S5 g6 s6 h6 n6 S6 sb0 S0
    refine a_lst (sX _ _ g0) gb (by omega) fun lc hlc => ?_
    have sc:=Same.new (o:=.lst (y0 ++ yb)) hlc
    have gc:=upd_same (H:=Gb) (a:=lc) (o:=.lst (y0 ++ yb))
    generalize L2.upd Gb lc (.lst (y0 ++ yb)) = Gc at sc gc ⊢
    have hpc:∀ v ∈ y0 ++ yb,OddN K H Gc v:=fun v hv => (List.mem_append.mp hv).elim (fun h => (hp0 v h).sm (sX.trans sc)) (fun h => (hpb v h).sm sc)
    have hlc':(y0 ++ yb).length = 29:=by rw [List.length_append]; omega
    generalize y0 ++ yb = yc at gc hpc hlc'
    replace sA:=(sA.trans sX).trans sc
    clear sX sc hpb hlb gb hlc g0 hl0 hp0
    clear y0 yb
    have g0:=gc
    have hl0:=hlc'
    have hp0:=hpc
    clear gc hlc' hpc
    generalize yc = y0 at g0 hl0 hp0
    generalize lc = l5 at g0 ⊢
    generalize Gc = K5 at g0 hp0 sA ⊢
    have S0:=sA
    walk_at "go"
    refine r_tupN fun p1 G1 n1 s1 g1 => ?_
    have S1:=S0.trans s1
    have h1:=S0.free n1
    walk_at "go"
    refine r_tupN fun p2 G2 n2 s2 g2 => ?_
    have S2:=S1.trans s2
    have h2:=S1.free n2
    walk_at "go"
    refine r_tupN fun p3 G3 n3 s3 g3 => ?_
    have S3:=S2.trans s3
    have h3:=S2.free n3
    walk_at "go"
    refine r_tupN fun p4 G4 n4 s4 g4 => ?_
    have S4:=S3.trans s4
    have h4:=S3.free n4
    walk_at "go"
    refine r_tupN fun p5 G5 n5 s5 g5 => ?_
    have S5:=S4.trans s5
    have h5:=S4.free n5
    walk_at "go"
    refine r_tupN fun p6 G6 n6 s6 g6 => ?_
    have S6:=S5.trans s6
    have h6:=S5.free n6
    have t6:=Same.refl G6
    have t5:=s6.trans t6
    have t4:=s5.trans t5
    have t3:=s4.trans t4
    have t2:=s3.trans t3
    have t1:=s2.trans t2
    have t0:=s1.trans t1
    walk_at "go"
    refine r_lstP (P:=OddN K H G6) 3 rfl (by decide) (fun v hv G nk => ?_) fun lb Gb yb sb0 gb hlb hpb => ?_
    . have f1:=nk _ _ h1 (t1 _ _ g1)
      have f2:=nk _ _ h2 (t2 _ _ g2)
      have f3:=nk _ _ h3 (t3 _ _ g3)
      have f4:=nk _ _ h4 (t4 _ _ g4)
      have f5:=nk _ _ h5 (t5 _ _ g5)
      have f6:=nk _ _ h6 (t6 _ _ g6)
      simp only [List.mem_cons,List.not_mem_nil,or_false] at hv
      rcases hv with rfl | rfl | rfl
      . exact ⟨.nop f2 (.inl rfl) (.two ha.q (.inl ⟨_,rfl,by decide +kernel,by decide +kernel⟩)),(.tup [(.str "after"),(.str sa),(.str "a b"),(.tup [(.int (1)),(.int (1))])]),⟨_,_,rfl,f2,⟨_,_,rfl,rfl,⟨_,_,rfl,rfl,⟨_,_,rfl,rfl,⟨_,_,rfl,⟨_,_,rfl,f1,⟨_,_,rfl,rfl,⟨_,_,rfl,rfl,rfl⟩⟩⟩,rfl⟩⟩⟩⟩⟩,by simp [dep,depL]⟩
      . exact ⟨.frm0 f4 (.inl ⟨_,rfl,by decide +kernel,by decide +kernel⟩),(.tup [(.str "from"),(.str "a."),(.tup [(.int (0)),(.int (1))])]),⟨_,_,rfl,f4,⟨_,_,rfl,rfl,⟨_,_,rfl,rfl,⟨_,_,rfl,⟨_,_,rfl,f3,⟨_,_,rfl,rfl,⟨_,_,rfl,rfl,rfl⟩⟩⟩,rfl⟩⟩⟩⟩,by simp [dep,depL]⟩
      . exact ⟨.frm0 f6 (.inl ⟨_,rfl,by decide +kernel,by decide +kernel⟩),(.tup [(.str "from"),(.str ""),(.tup [(.int (0)),(.int (1))])]),⟨_,_,rfl,f6,⟨_,_,rfl,rfl,⟨_,_,rfl,rfl,⟨_,_,rfl,⟨_,_,rfl,f5,⟨_,_,rfl,rfl,⟨_,_,rfl,rfl,rfl⟩⟩⟩,rfl⟩⟩⟩⟩,by simp [dep,depL]⟩
    replace hpb:∀ v ∈ yb,OddN K H Gb v:=fun v hv => (hpb v hv).sm sb0
    have sX:=t0.trans sb0
    clear t0 t1 t2 t3 t4 t5 t6 g1 s1 h1 n1 S1 g2 s2 h2 n2 S2 g3 s3 h3 n3 S3 g4 s4 h4 n4 S4 g5 s5 h5 n5 S5 g6 s6 h6 n6 S6 sb0 S0
    refine a_lst (sX _ _ g0) gb (by omega) fun lc hlc => ?_
    have sc:=Same.new (o:=.lst (y0 ++ yb)) hlc
    have gc:=upd_same (H:=Gb) (a:=lc) (o:=.lst (y0 ++ yb))
    generalize L2.upd Gb lc (.lst (y0 ++ yb)) = Gc at sc gc ⊢
    have hpc:∀ v ∈ y0 ++ yb,OddN K H Gc v:=fun v hv => (List.mem_append.mp hv).elim (fun h => (hp0 v h).sm (sX.trans sc)) (fun h => (hpb v h).sm sc)
    have hlc':(y0 ++ yb).length = 32:=by rw [List.length_append]; omega
    generalize y0 ++ yb = yc at gc hpc hlc'
    replace sA:=(sA.trans sX).trans sc
    clear sX sc hpb hlb gb hlc g0 hl0 hp0
    clear y0 yb
    have g0:=gc
    have hl0:=hlc'
    have hp0:=hpc
    clear gc hlc' hpc
    generalize yc = y0 at g0 hl0 hp0
    generalize lc = l6 at g0 ⊢
    generalize Gc = K6 at g0 hp0 sA ⊢
    walk_at "go"
    obtain ⟨v,hv,ev⟩:=pickV (xs:=y0) (i:=n % 32) (Int.emod_nonneg _ (by decide)) (by have:=Int.emod_lt_of_pos n (show (0:Int) < 32 by decide); omega)
    refine r_ixl g0 ev ?_
    walk_at "go"
    exact q v _ sA (hp0 v hv)
set_option maxHeartbeats 0 in
theorem ok_at (T:Bl mg) (d:Df K mg "_law_at" s_at ["_law_wishes","_law_way"]  ) (W:XmS mg xt x0 x1 x5 x6 x11) (R_NoWish:XrS K xt x0 x1 x5 x6 x11 x11 11) (o_steps_of:OkfX P w K mg base k "steps_of" ["wishes"] [] (spStepsOf52 K x11)) (o_played_at:OkfX P w K mg base k "played_at" ["wishes"] [] (spPlayed52 K x11)):Okf P w K mg base (k + 1) "_law_at" ["_law_wishes","_law_way"] (spAt52 K):=by
  refine Okf.of d sc_at (fun vs H Q E h => ?_) (fun f cdv A outer s H vs Q E hr h => ?_)
  . obtain ⟨x,b,v,rfl,_⟩:=h
    rfl
  . obtain ⟨x,b,v,rfl,hb,q⟩:=h
    refine ⟨_,(@pss_cons _ _ _ _ _ (@ps_set _ _ (i:=2) _ _ _ _ sc_at.nd rfl (by first | exact Or.inl rfl | exact Or.inr rfl) (@pe_non _ _ _) (by rfl) (by first | exact .inl rfl | exact .inr rfl | assumption)) (@pss_cons _ _ _ _ _ (@ps_try _ _ _ _ (i:=3) _ _ _ _ _ _ _ _ rfl rfl rfl rfl W.t sc_at.nd rfl rfl (@px_if _ _ _ _ _ _ _ _ (fun _ _ z => z) (@pt_val _ _ _ (pv 1) (by intro _; rfl)) (@px_expr _ _ _ _ (@pex_call _ _ _ _ _ _ _ _ _ _ _ o_steps_of rfl (fun _ _ z => z) hr rfl (@pa_cons _ _ _ _ _ (pv 0) (@pa_nil _) (by rfl)) (by decide) (by rfl) (by rfl)) (by rfl)) (@px_expr _ _ _ _ (@pex_call _ _ _ _ _ _ _ _ _ _ _ o_played_at rfl (fun _ _ z => z) hr rfl (@pa_cons _ _ _ _ _ (pv 0) (@pa_nil _) (by rfl)) (by decide) (by rfl) (by rfl)) (by rfl))) (fun y => (@pss_one _ _ _ (@ps_set _ _ (i:=2) _ _ _ _ sc_at.nd rfl (by first | exact Or.inl rfl | exact Or.inr rfl) (pv 3) (by rfl) (by first | exact .inl rfl | exact .inr rfl | assumption)))) (by decide)) (@pss_cons _ _ _ _ _ (@ps_if _ _ _ _ _ _ _ _ (@PW.pt _ _ _ (@pw_or _ _ _ _ _ _ _ (@pt_not _ _ _ _ (@pt_val _ _ _ (@pe_callB _ _ _ _ _ _ _ _ _ call_isX rfl T.z_isinstance bt_isinstance (@pa_cons _ _ _ _ _ (pv 2) (@pa_cons _ _ _ _ _ (@pe_glob _ _ (v:=.ref x11) _ _ rfl W.m_NoWish rfl (by decide)) (@pa_nil _) (by rfl)) (by rfl)) (by decide) (by decide) (by rfl) (by rfl)) (by intro _; rfl))) (@pw_or1 _ _ _ _ (@pt_not _ _ _ _ (@pt_val _ _ _ (@pe_callB _ _ _ _ _ _ _ _ _ call_isX rfl T.z_isinstance bt_isinstance (@pa_cons _ _ _ _ _ (pv 2) (@pa_cons _ _ _ _ _ (@pe_bltn _ _ (v:=.ty "ValueError") _ _ rfl W.zV bt_ValueError rfl (by decide) (by decide)) (@pa_nil _) (by rfl)) (by rfl)) (by decide) (by decide) (by rfl) (by rfl)) (by intro _; rfl)))))) (@pss_one _ _ _ (@ps_ret _ _ _ _ (@pe_lst _ _ _ _ (@pa_cons _ _ _ _ _ (@pe_str _ _ _ _) (@pa_nil _) (by rfl))))) (@pss_nil _)) (@pss_cons _ _ _ _ _ (@ps_if _ _ _ _ _ _ _ _ (@pt_val _ _ _ (@pe_callB _ _ _ _ _ _ _ _ _ call_isXT rfl T.z_isinstance bt_isinstance (@pa_cons _ _ _ _ _ (pv 2) (@pa_cons _ _ _ _ _ (@pe_tup _ _ _ _ _ (@pa_cons _ _ _ _ _ (@pe_glob _ _ (v:=.ref x1) _ _ rfl W.m_NoNet rfl (by decide)) (@pa_cons _ _ _ _ _ (@pe_glob _ _ (v:=.ref x0) _ _ rfl W.m_NoNumber rfl (by decide)) (@pa_cons _ _ _ _ _ (@pe_glob _ _ (v:=.ref x6) _ _ rfl W.m_NoPost rfl (by decide)) (@pa_cons _ _ _ _ _ (@pe_glob _ _ (v:=.ref x5) _ _ rfl W.m_NoText rfl (by decide)) (@pa_nil _) (by rfl)) (by rfl)) (by rfl)) (by rfl))) (@pa_nil _) (by rfl)) (by rfl)) (by decide) (by decide) (by rfl) (by rfl)) (by intro _; rfl)) (@pss_one _ _ _ (@ps_ret _ _ _ _ (@pe_lst _ _ _ _ (@pa_cons _ _ _ _ _ (@pe_str _ _ _ _) (@pa_nil _) (by rfl))))) (@pss_nil _)) (@pss_one _ _ _ (@ps_ret _ _ _ _ (@pe_lst _ _ _ _ (@pa_cons _ _ _ _ _ (@pe_at _ (CT:=xt) _ _ _ (pv 2) rfl) (@pa_nil _) (by rfl))))))))),?_⟩
    cases b with
    | true =>
      walk_at "go"
      refine r_xif ?_
      walk_at "go"
      refine ⟨x,rfl,.inr ⟨v,hb,fun dx H1 s1 hd => ?_⟩⟩
      refine r_tryE R_NoWish.t fun y hy => ?_
      have t1:=s1.trans (Same.new (o:=excO y x11 (some dx)) hy)
      have y1:=upd_same (H:=H1) (a:=y) (o:=excO y x11 (some dx))
      have hd1:=upd_old (o:=excO y x11 (some dx)) hy hd
      generalize L2.upd H1 y (excO y x11 (some dx)) = H2 at t1 y1 hd1 ⊢
      walk_at "go"
      refine r_isXc y1 R_NoWish.x R_NoWish.k11 ?_
      rw [show Nat.beq 11 11 = true from rfl]
      walk_at "go"
      refine r_isXt y1 R_NoWish.x R_NoWish.v ?_
      walk_at "go"
      refine r_tupK fun p hp => ?_
      have t2:=Same.new (o:=.tup [.ref x1,.ref x0,.ref x6,.ref x5]) hp
      have g2:=upd_same (H:=H2) (a:=p) (o:=.tup [.ref x1,.ref x0,.ref x6,.ref x5])
      generalize L2.upd H2 p (.tup [.ref x1,.ref x0,.ref x6,.ref x5]) = H3 at t2 g2 ⊢
      refine ⟨y,x11,p,some dx,[x1,x0,x6,x5],rfl,t2 _ _ y1,R_NoWish.x,g2,fun c hc => ?_,?_⟩
      . simp only [List.mem_cons,List.not_mem_nil,or_false] at hc
        rcases hc with rfl | rfl | rfl | rfl
        . exact R_NoWish.k1
        . exact R_NoWish.k0
        . exact R_NoWish.k6
        . exact R_NoWish.k5
      walk_at "go"
      refine r_at ?_
      walk_at "go"
      refine ⟨y,x11,dx,v,rfl,t2 _ _ y1,R_NoWish.x,R_NoWish.c,t2 _ _ hd1,?_⟩
      walk_at "go"
      refine r_lstK fun l hl => ?_
      walk_at "go"
      have t12:=t1.trans t2
      exact q l _ (t12.free hl) (t12.trans (Same.new hl)) upd_same
    | false =>
      walk_at "go"
      refine r_xif ?_
      walk_at "go"
      refine ⟨x,v,rfl,hb,fun dx H1 s1 hd => ?_⟩
      refine r_tryE R_NoWish.t fun y hy => ?_
      have t1:=s1.trans (Same.new (o:=excO y x11 (some dx)) hy)
      have y1:=upd_same (H:=H1) (a:=y) (o:=excO y x11 (some dx))
      have hd1:=upd_old (o:=excO y x11 (some dx)) hy hd
      generalize L2.upd H1 y (excO y x11 (some dx)) = H2 at t1 y1 hd1 ⊢
      walk_at "go"
      refine r_isXc y1 R_NoWish.x R_NoWish.k11 ?_
      rw [show Nat.beq 11 11 = true from rfl]
      walk_at "go"
      refine r_isXt y1 R_NoWish.x R_NoWish.v ?_
      walk_at "go"
      refine r_tupK fun p hp => ?_
      have t2:=Same.new (o:=.tup [.ref x1,.ref x0,.ref x6,.ref x5]) hp
      have g2:=upd_same (H:=H2) (a:=p) (o:=.tup [.ref x1,.ref x0,.ref x6,.ref x5])
      generalize L2.upd H2 p (.tup [.ref x1,.ref x0,.ref x6,.ref x5]) = H3 at t2 g2 ⊢
      refine ⟨y,x11,p,some dx,[x1,x0,x6,x5],rfl,t2 _ _ y1,R_NoWish.x,g2,fun c hc => ?_,?_⟩
      . simp only [List.mem_cons,List.not_mem_nil,or_false] at hc
        rcases hc with rfl | rfl | rfl | rfl
        . exact R_NoWish.k1
        . exact R_NoWish.k0
        . exact R_NoWish.k6
        . exact R_NoWish.k5
      walk_at "go"
      refine r_at ?_
      walk_at "go"
      refine ⟨y,x11,dx,v,rfl,t2 _ _ y1,R_NoWish.x,R_NoWish.c,t2 _ _ hd1,?_⟩
      walk_at "go"
      refine r_lstK fun l hl => ?_
      walk_at "go"
      have t12:=t1.trans t2
      exact q l _ (t12.free hl) (t12.trans (Same.new hl)) upd_same
set_option maxHeartbeats 0 in
theorem ok_spoilt (T:Bl mg) (d:Df K mg "_law_spoilt" s_spoilt ["_law_wishes","_law_number_here","_law_bells_here"]  ) (W:XmS mg xt x0 x1 x5 x6 x11) (R_NoWish:XrS K xt x0 x1 x5 x6 x11 x11 11) (o_odd:Okf P w K mg base k "_law_odd" ["_law_number_here","_law_bells_here"] (spOdd52 K)):Okf P w K mg base (k + 1) "_law_spoilt" ["_law_wishes","_law_number_here","_law_bells_here"] (spSpoilt52 K):=by
  refine Okf.of d sc_spoilt (fun vs H Q E h => ?_) (fun f cdv A outer s H vs Q E hr h => ?_)
  . obtain ⟨l,ys,ws,n,lb,U,rfl,_⟩:=h
    rfl
  . obtain ⟨l,ys,ws,n,lb,U,rfl,hl,pw,hok,hwl,hn,hlb,hl8,hl100,nd,hU,q⟩:=h
    refine ⟨_,(@pss_cons _ _ _ _ _ (@ps_set _ _ (i:=3) _ _ _ _ sc_spoilt.nd rfl (by first | exact Or.inl rfl | exact Or.inr rfl) (@pe_op _ _ _ _ _ _ _ _ op_mod (pv 1) (@pe_op _ _ _ _ _ _ _ _ op_addA (@pe_callB _ _ _ _ _ _ _ _ _ c_len rfl T.z_len bt_len (@pa_cons _ _ _ _ _ (pv 0) (@pa_nil _) (by rfl)) (by decide) (by decide) (by rfl) (by rfl)) (@pe_int _ _ _ _))) (by rfl) (by first | exact .inl rfl | exact .inr rfl | assumption)) (@pss_cons _ _ _ _ _ (@ps_set _ _ (i:=4) _ _ _ _ sc_spoilt.nd rfl (by first | exact Or.inl rfl | exact Or.inr rfl) (@pe_op _ _ _ _ _ _ _ _ op_addA (@pe_op _ _ _ _ _ _ _ _ op_addA (@pe_slice _ _ _ _ _ _ _ _ _ _ sl_any (pv 0) (@po_none _) (@po_some _ _ _ (pv 3))) (@pe_lst _ _ _ _ (@pa_cons _ _ _ _ _ (@pe_callO _ _ _ _ _ _ _ _ _ _ o_odd hr rfl (@pa_cons _ _ _ _ _ (@pe_op _ _ _ _ _ _ _ _ op_fdivB (pv 1) (@pe_int _ _ _ _)) (@pa_cons _ _ _ _ _ (pv 2) (@pa_nil _) (by rfl)) (by rfl)) (by decide) (by rfl) (by rfl)) (@pa_nil _) (by rfl)))) (@pe_slice _ _ _ _ _ _ _ _ _ _ sl_any (pv 0) (@po_some _ _ _ (pv 3)) (@po_none _))) (by rfl) (by first | exact .inl rfl | exact .inr rfl | assumption)) (@pss_cons _ _ _ _ _ (@ps_if _ _ _ _ _ _ _ _ (@pt_cmpR _ _ _ _ _ _ _ _ (op_eqA hr.units) (@pe_op _ _ _ _ _ _ _ _ op_mod (@pe_op _ _ _ _ _ _ _ _ op_fdivB (pv 1) (@pe_int _ _ _ _)) (@pe_int _ _ _ _)) (@pe_int _ _ _ _) (nomark _)) (@pss_one _ _ _ (@ps_expr _ _ _ _ (@pe_bm _ _ _ _ _ _ _ _ _ _ _ _ PySem.F.plainAttrs_list PySem.F.slot_list_insert PySem.F.type_list_insert mt_insert (pv 4) (@pa_cons _ _ _ _ _ (@pe_op _ _ _ _ _ _ _ _ op_addA (@pe_op _ _ _ _ _ _ _ _ op_addA (pv 3) (@pe_int _ _ _ _)) (@pe_op _ _ _ _ _ _ _ _ op_mod (@pe_op _ _ _ _ _ _ _ _ op_fdivB (pv 1) (@pe_int _ _ _ _)) (@pe_op _ _ _ _ _ _ _ _ op_sub (@pe_callB _ _ _ _ _ _ _ _ _ c_len rfl T.z_len bt_len (@pa_cons _ _ _ _ _ (pv 4) (@pa_nil _) (by rfl)) (by decide) (by decide) (by rfl) (by rfl)) (pv 3)))) (@pa_cons _ _ _ _ _ (@pe_callO _ _ _ _ _ _ _ _ _ _ o_odd hr rfl (@pa_cons _ _ _ _ _ (@pe_op _ _ _ _ _ _ _ _ op_fdivB (pv 1) (@pe_int _ _ _ _)) (@pa_cons _ _ _ _ _ (pv 2) (@pa_nil _) (by rfl)) (by rfl)) (by decide) (by rfl) (by rfl)) (@pa_nil _) (by rfl)) (by rfl)) (by rfl) (by rfl) (by rfl) (by rfl) (by rfl)) (by rfl))) (@pss_nil _)) (@pss_one _ _ _ (@ps_ret _ _ _ _ (@pe_tup _ _ _ _ _ (@pa_cons _ _ _ _ _ (pv 4) (@pa_cons _ _ _ _ _ (pv 3) (@pa_nil _) (by rfl)) (by rfl)))))))),?_⟩
    have hml:(U.map V.str).length = U.length:=List.length_map _
    have hyl:=Paired.length pw
    walk_at "go"
    obtain ⟨i,hi,ei⟩:∃ i:Nat,i <= ys.length /\ n % ((ys.length:Int) + 1) = (i:Int):=by
      have h1:=Int.emod_nonneg n (show (ys.length:Int) + 1 ≠ 0 by omega)
      have h2:=Int.emod_lt_of_pos n (show 0 < (ys.length:Int) + 1 by omega)
      exact ⟨(n % ((ys.length:Int) + 1)).toNat,by omega,by omega⟩
    rw [ei]
    walk_at "go"
    refine s_lst hl fun l1 hl1 => ?_
    rw [cut_nW]
    have s1:=Same.new (o:=.lst (ys.take i)) hl1
    have g1:=upd_same (H:=H) (a:=l1) (o:=.lst (ys.take i))
    generalize L2.upd H l1 (.lst (ys.take i)) = H1 at s1 g1 ⊢
    have gW:∀ {j:Nat} {v:V},ys[j]? = some v -> IsWishQ K H v true /\ Itm H v:=fun h => good_at pw hok h
    have htl:(ys.take i).length = i:=by rw [List.length_take]; omega
    have hdl:(ys.drop i).length = ys.length - i:=List.length_drop
    walk_at "go"
    refine ⟨_,lb,U,rfl,Int.fdiv_nonneg hn (by decide),s1 _ _ hlb,hl8,hl100,nd,hU,fun o H2 s2 ho => ?_⟩
    walk_at "go"
    refine r_lstN fun l3 H3 n3 s3 g3 => ?_
    refine a_lst (s3 _ _ (s2 _ _ g1)) g3 (by show _ + 1 <= _; omega) fun l4 hl4 => ?_
    have s4:=Same.new (o:=.lst (ys.take i ++ [o])) hl4
    have g4:=upd_same (H:=H3) (a:=l4) (o:=.lst (ys.take i ++ [o]))
    generalize L2.upd H3 l4 (.lst (ys.take i ++ [o])) = H4 at s4 g4 ⊢
    have s14:=((s1.trans s2).trans s3).trans s4
    have hl4':=s14 _ _ hl
    walk_at "go"
    refine s_lst hl4' fun l5 hl5 => ?_
    rw [cut_fromW i hi]
    have s5:=Same.new (o:=.lst (ys.drop i)) hl5
    have g5:=upd_same (H:=H4) (a:=l5) (o:=.lst (ys.drop i))
    generalize L2.upd H4 l5 (.lst (ys.drop i)) = H5 at s5 g5 ⊢
    refine a_lst (s5 _ _ g4) g5 (by rw [List.length_append]; show _ + 1 + _ <= _; omega) fun l6 hl6 => ?_
    have s6:=Same.new (o:=.lst (ys.take i ++ [o] ++ ys.drop i)) hl6
    have g6:=upd_same (H:=H5) (a:=l6) (o:=.lst (ys.take i ++ [o] ++ ys.drop i))
    generalize L2.upd H5 l6 (.lst (ys.take i ++ [o] ++ ys.drop i)) = H6 at s6 g6 ⊢
    have s16:=(s14.trans s5).trans s6
    have s26:=((s3.trans s4).trans s5).trans s6
    have hl60:H l6 = none:=(s14.trans s5).free hl6
    have hzl:(ys.take i ++ [o] ++ ys.drop i).length = ys.length + 1:=by rw [List.length_append,List.length_append,htl,hdl]; show i + 1 + _ = _; omega
    have hzi:(ys.take i ++ [o] ++ ys.drop i)[i]? = some o:=by
      rw [List.append_assoc,List.getElem?_append_right (by omega),htl,Nat.sub_self]
      rfl
    have hzj:∀ j,j < i -> (ys.take i ++ [o] ++ ys.drop i)[j]? = ys[j]?:=fun j hj => by
      rw [List.append_assoc,List.getElem?_append_left (by omega),List.getElem?_take_of_lt hj]
    have no:NewK H1 H2 H6:=fun b o _ e => s26 _ _ e
    have hit:∀ v ∈ ys.take i ++ [o] ++ ys.drop i,v = o ∨ Itm H v:=fun v hv => by
      rcases List.mem_append.mp hv with hv | hv
      . rcases List.mem_append.mp hv with hv | hv
        . obtain ⟨j,hj,e⟩:=List.getElem_of_mem (List.mem_of_mem_take hv)
          exact .inr (gW (List.getElem?_eq_some_iff.mpr ⟨hj,e⟩)).2
        . exact .inl (List.mem_singleton.mp hv)
      . obtain ⟨j,hj,e⟩:=List.getElem_of_mem (List.mem_of_mem_drop hv)
        exact .inr (gW (List.getElem?_eq_some_iff.mpr ⟨hj,e⟩)).2
    generalize ys.take i ++ [o] ++ ys.drop i = zs at g6 hzl hzi hzj hit
    walk_at "gos"
    refine r_nx ?_
    refine r_seq ?_
    refine r_cut (fun σ G => ∃ zs:List V,σ = [some (.ref l),some (.int n),some (.ref lb),some (.int (i:Int)),some (.ref l6)] /\ Same H G /\ G l6 = some (.lst zs) /\ zs.length <= 100 /\ zs[i]? = some o /\ (∀ j,j < i -> zs[j]? = ys[j]?) /\ (∀ v ∈ zs,Itm G v) /\ IsWishQ K G o false) ?_ ?_
    . rintro _ G ⟨zs,rfl,sG,gz,hzl,hzi,hzj,hit,hbo⟩
      obtain ⟨ds,hd1,hd2⟩:=denL_of hit
      walk_at "go"
      refine r_tupK fun p hp => ?_
      have s9:=Same.new (o:=.tup [.ref l6,.int (i:Int)]) hp
      walk_at "go"
      exact q p l6 zs ds i _ (sG.trans s9) upd_same hl60 (s9 _ _ gz) hzl (denL_sm s9 hd1) hd2 (.inl ⟨l6,zs,i,o,rfl,s9 _ _ gz,by omega,hzi,hbo.sm s9,fun j y' hj e => (gW ((hzj j hj).symm.trans e)).1.sm (sG.trans s9),rfl⟩)
    intro NX hNX
    walk_at "go"
    refine i_d (fun c1 => ?_) (fun c1 => ?_)
    rotate_left
    . walk_at "go"
      refine hNX _ _ ⟨zs,rfl,s16,g6,by omega,hzi,hzj,fun v hv => ?_,(ho H6 no).1⟩
      rcases hit v hv with rfl | h
      . exact (ho H6 no).2
      . exact h.sm s16
    walk_at "go"
    refine ⟨_,lb,U,rfl,Int.fdiv_nonneg hn (by decide),s16 _ _ hlb,hl8,hl100,nd,hU,fun o2 H7 s7 ho2 => ?_⟩
    obtain ⟨k2,hk2,ek2⟩:∃ k2:Nat,(i + 1 <= k2 /\ k2 <= zs.length) /\ (i:Int) + 1 + n.fdiv 1984 % ((zs.length:Int) - (i:Int)) = (k2:Int):=by
      have h1:=Int.emod_nonneg (n.fdiv 1984) (show (zs.length:Int) - (i:Int) ≠ 0 by omega)
      have h2:=Int.emod_lt_of_pos (n.fdiv 1984) (show 0 < (zs.length:Int) - (i:Int) by omega)
      exact ⟨((i:Int) + 1 + n.fdiv 1984 % ((zs.length:Int) - (i:Int))).toNat,by omega,by omega⟩
    walk_at "go"
    rw [ek2]
    refine r_insert (s7 _ _ g6) hk2.2 (by omega) ?_
    have k8:Kp l6 H7 (L2.upd H7 l6 (.lst (zs.take k2 ++ o2 :: zs.drop k2))):=Kp.upd
    have g8:=upd_same (H:=H7) (a:=l6) (o:=.lst (zs.take k2 ++ o2 :: zs.drop k2))
    generalize L2.upd H7 l6 (.lst (zs.take k2 ++ o2 :: zs.drop k2)) = G8 at k8 g8 ⊢
    have h26:H2 l6 = none:=((s3.trans s4).trans s5).free hl6
    have no8:NewK H1 H2 G8:=fun b o' _ e => k8 _ _ (fun z => by rw [z,h26] at e; cases e) (s7 _ _ (s26 _ _ e))
    have no2:NewK H6 H7 G8:=fun b o' e1 e2 => k8 _ _ (fun z => by rw [z,g6] at e1; cases e1) e2
    have s8:Same H G8:=k8.sm (s16.trans s7) hl60
    have ht2:(zs.take k2).length = k2:=by rw [List.length_take]; omega
    walk_at "go"
    refine hNX _ _ ⟨zs.take k2 ++ o2 :: zs.drop k2,rfl,s8,g8,?_,?_,fun j hj => ?_,fun v hv => ?_,(ho G8 no8).1⟩
    . rw [List.length_append,List.length_cons,List.length_drop,ht2]
      omega
    . rw [List.getElem?_append_left (by omega),List.getElem?_take_of_lt (by omega)]
      exact hzi
    . rw [List.getElem?_append_left (by omega),List.getElem?_take_of_lt (by omega)]
      exact hzj j hj
    . have:v = o2 ∨ v ∈ zs:=by
        rcases List.mem_append.mp hv with h | h
        . exact .inr (List.mem_of_mem_take h)
        . rcases List.mem_cons.mp h with h | h
          . exact .inl h
          . exact .inr (List.mem_of_mem_drop h)
      rcases this with rfl | h
      . exact (ho2 G8 no2).2
      . rcases hit v h with rfl | h
        . exact (ho G8 no8).2
        . exact h.sm s8
set_option maxHeartbeats 0 in
theorem ok_law {f:Addr} {fd:FuncData} (T:Bl mg) (F:Fun K "law" "law" s_law f fd) (W:XmS mg xt x0 x1 x5 x6 x11) (R_NoWish:XrS K xt x0 x1 x5 x6 x11 x11 11) (o_steps_of:OkfX P w K mg base k "steps_of" ["wishes"] [] (spStepsOf52 K x11)) (o_at:Okf P w K mg base k "_law_at" ["_law_wishes","_law_way"] (spAt52 K)) (o_number:Okf P w K mg base k "_law_number" ["_law_script","_law_k"] (spNumW K)) (o_spoilt:Okf P w K mg base k "_law_spoilt" ["_law_wishes","_law_number_here","_law_bells_here"] (spSpoilt52 K)) (o_wish:Okf P w K mg base k "_law_wish" ["_law_number_here","_law_bells_here"] (spWish K)) (o_bells:Okf P w K mg base k "_law_bells" ["_law_script","_law_most"] (spBells K)):FnOk P w K mg base CX0 (k + 1) f fd ["_law_script"] (spLaw K):=by
  refine F.ok sc_law (fun vs H Q E h => ?_) (fun cdv A outer s H vs Q E hr h => ?_)
  . obtain ⟨a,ns,rfl,_⟩:=h
    rfl
  . obtain ⟨a,ns,rfl,hS,h63,q⟩:=h
    refine ⟨_,(@pss_cons _ _ _ _ _ (@ps_set _ _ (i:=1) _ _ _ _ sc_law.nd rfl (by first | exact Or.inl rfl | exact Or.inr rfl) (@pe_callO _ _ _ _ _ _ _ _ _ _ o_bells hr rfl (@pa_cons _ _ _ _ _ (pv 0) (@pa_cons _ _ _ _ _ (@pe_int _ _ _ _) (@pa_nil _) (by rfl)) (by rfl)) (by decide) (by rfl) (by rfl)) (by rfl) (by first | exact .inl rfl | exact .inr rfl | assumption)) (@pss_cons _ _ _ _ _ (@ps_setC _ _ _ _ _ _ _ _ _ _ _ _ _ _ (i:=2) _ _ _ sc_law.nd rfl (by first | exact Or.inl rfl | exact Or.inr rfl) (@comp_ck _ _ (sc:=defScope s_law) (N:=["_law_script","_law_bells_here","_law_wishes","_law_due","_law_k","_law_more","_law_at_here","_law_handed","_law_thing"]) (tn:=["_law_k"]) (names:=["_law_script","_law_bells_here"]) (is:=[0,1]) rfl rfl (by decide +kernel) (by decide +kernel) rfl (by decide +kernel) rfl (by decide +kernel) (by decide +kernel) (by decide +kernel)) rfl (@pi_range2 _ _ _ _ _ _ _ rfl T.z_range (@pa_cons _ _ _ _ _ (@pe_int _ _ _ _) (@pa_cons _ _ _ _ _ (@pe_callB _ _ _ _ _ _ _ _ _ (c_min rfl) rfl T.z_min bt_min (@pa_cons _ _ _ _ _ (@pe_callB _ _ _ _ _ _ _ _ _ c_len rfl T.z_len bt_len (@pa_cons _ _ _ _ _ (pv 0) (@pa_nil _) (by rfl)) (by decide) (by decide) (by rfl) (by rfl)) (@pa_cons _ _ _ _ _ (@pe_int _ _ _ _) (@pa_nil _) (by rfl)) (by rfl)) (by decide) (by decide) (by rfl) (by rfl)) (@pa_nil _) (by rfl)) (by rfl)) (by rfl) (by rfl)) (fun _ _ _ _ => (@pg_name _ _ (i:=0) _ (show (["_law_k","_law_script","_law_bells_here"]:List Str).Nodup by decide +kernel) rfl (Or.inl rfl) (Or.inr rfl))) (fun _ _ _ _ => (@pe_callO _ _ _ _ _ _ _ _ _ _ o_wish hr rfl (@pa_cons _ _ _ _ _ (@pe_callO _ _ _ _ _ _ _ _ _ _ o_number hr rfl (@pa_cons _ _ _ _ _ (pv 1) (@pa_cons _ _ _ _ _ (pv 0) (@pa_nil _) (by rfl)) (by rfl)) (by decide) (by rfl) (by rfl)) (@pa_cons _ _ _ _ _ (pv 2) (@pa_nil _) (by rfl)) (by rfl)) (by decide) (by rfl) (by rfl))) (fun _ _ _ _ => (@pts_none _)) (by intro _; rfl) (by rfl) (by first | exact .inl rfl | exact .inr rfl | assumption)) (@pss_cons _ _ _ _ _ (@ps_set _ _ (i:=3) _ _ _ _ sc_law.nd rfl (by first | exact Or.inl rfl | exact Or.inr rfl) (@pe_callX _ _ _ _ _ _ _ _ _ _ _ _ o_steps_of hr rfl passN (@pa_cons _ _ _ _ _ (@pe_callTy _ _ _ _ _ _ _ _ _ c_list rfl T.z_list bt_list (@pa_cons _ _ _ _ _ (pv 2) (@pa_nil _) (by rfl)) (by decide) (by decide) (by rfl) (by rfl)) (@pa_nil _) (by rfl)) (by decide) (by rfl) (by rfl)) (by rfl) (by first | exact .inl rfl | exact .inr rfl | assumption)) (@pss_cons _ _ _ _ _ (@ps_for _ _ _ _ _ _ _ _ PassesOwn.never rfl (@pi_range2 _ _ _ _ _ _ _ rfl T.z_range (@pa_cons _ _ _ _ _ (@pe_int _ _ _ _) (@pa_cons _ _ _ _ _ (@pe_callB _ _ _ _ _ _ _ _ _ (c_max rfl) rfl T.z_max bt_max (@pa_cons _ _ _ _ _ (@pe_int _ _ _ _) (@pa_cons _ _ _ _ _ (@pe_callB _ _ _ _ _ _ _ _ _ (c_min rfl) rfl T.z_min bt_min (@pa_cons _ _ _ _ _ (@pe_callB _ _ _ _ _ _ _ _ _ c_len rfl T.z_len bt_len (@pa_cons _ _ _ _ _ (pv 0) (@pa_nil _) (by rfl)) (by decide) (by decide) (by rfl) (by rfl)) (@pa_cons _ _ _ _ _ (@pe_int _ _ _ _) (@pa_nil _) (by rfl)) (by rfl)) (by decide) (by decide) (by rfl) (by rfl)) (@pa_nil _) (by rfl)) (by rfl)) (by decide) (by decide) (by rfl) (by rfl)) (@pa_nil _) (by rfl)) (by rfl)) (by rfl) (by rfl)) (@pg_name _ _ (i:=4) _ sc_law.nd rfl (by first | exact Or.inl rfl | exact Or.inr rfl) (by first | exact .inl rfl | exact .inr rfl | assumption)) (@pss_cons _ _ _ _ _ (@ps_asg _ _ _ _ _ _ (@pe_callO _ _ _ _ _ _ _ _ _ _ o_spoilt hr rfl (@pa_cons _ _ _ _ _ (pv 2) (@pa_cons _ _ _ _ _ (@pe_op _ _ _ _ _ _ _ _ op_addA (@pe_callO _ _ _ _ _ _ _ _ _ _ o_number hr rfl (@pa_cons _ _ _ _ _ (pv 0) (@pa_cons _ _ _ _ _ (pv 4) (@pa_nil _) (by rfl)) (by rfl)) (by decide) (by rfl) (by rfl)) (@pe_op _ _ _ _ _ _ _ _ op_mulB (@pe_int _ _ _ _) (pv 4))) (@pa_cons _ _ _ _ _ (pv 1) (@pa_nil _) (by rfl)) (by rfl)) (by rfl)) (by decide) (by rfl) (by rfl)) (@pg_tup _ _ _ _ _ (n:=2) rfl (@pgs_cons _ _ _ _ _ (@pg_name _ _ (i:=5) _ sc_law.nd rfl (by first | exact Or.inl rfl | exact Or.inr rfl) (by first | exact .inl rfl | exact .inr rfl | assumption)) (@pgs_cons _ _ _ _ _ (@pg_name _ _ (i:=6) _ sc_law.nd rfl (by first | exact Or.inl rfl | exact Or.inr rfl) (by first | exact .inl rfl | exact .inr rfl | assumption)) (@pgs_nil _) (by rfl)) (by rfl)) (by rfl) (by rfl)) (by rfl) (by rfl) (by rfl)) (@pss_cons _ _ _ _ _ (@ps_set _ _ (i:=7) _ _ _ _ sc_law.nd rfl (by first | exact Or.inl rfl | exact Or.inr rfl) (@pe_callTy _ _ _ _ _ _ _ _ _ c_list rfl T.z_list bt_list (@pa_cons _ _ _ _ _ (pv 5) (@pa_nil _) (by rfl)) (by decide) (by decide) (by rfl) (by rfl)) (by rfl) (by first | exact .inl rfl | exact .inr rfl | assumption)) (@pss_cons _ _ _ _ _ (@ps_if _ _ _ _ _ _ _ _ (@PW.pt _ _ _ (@pw_or _ _ _ _ _ _ _ (@pt_cmpR _ _ _ _ _ _ _ _ (op_neA hr.units) (@pe_callO _ _ _ _ _ _ _ _ _ _ o_at hr rfl (@pa_cons _ _ _ _ _ (pv 7) (@pa_cons _ _ _ _ _ (@pe_bl _ _ _ _) (@pa_nil _) (by rfl)) (by rfl)) (by decide) (by rfl) (by rfl)) (@pe_lst _ _ _ _ (@pa_cons _ _ _ _ _ (pv 6) (@pa_nil _) (by rfl))) (nomark _)) (@pw_or _ _ _ _ _ _ _ (@pt_cmpR _ _ _ _ _ _ _ _ (op_neA hr.units) (@pe_callO _ _ _ _ _ _ _ _ _ _ o_at hr rfl (@pa_cons _ _ _ _ _ (pv 7) (@pa_cons _ _ _ _ _ (@pe_bl _ _ _ _) (@pa_nil _) (by rfl)) (by rfl)) (by decide) (by rfl) (by rfl)) (@pe_lst _ _ _ _ (@pa_cons _ _ _ _ _ (pv 6) (@pa_nil _) (by rfl))) (nomark _)) (@pw_or1 _ _ _ _ (@pt_cmpR _ _ _ _ _ _ _ _ (op_neA hr.units) (pv 7) (pv 5) (nomark _)))))) (@pss_one _ _ _ (@ps_ret _ _ _ _ (@pe_bl _ _ _ _))) (@pss_nil _)) (@pss_one _ _ _ (@ps_if _ _ _ _ _ _ _ _ (@pt_val _ _ _ (@pe_callB _ _ _ _ _ _ _ _ _ (call_isTy (T:="bool")) rfl T.z_isinstance bt_isinstance (@pa_cons _ _ _ _ _ (@pe_ix _ _ _ _ _ _ _ ix_LT (@pe_callO _ _ _ _ _ _ _ _ _ _ o_at hr rfl (@pa_cons _ _ _ _ _ (pv 7) (@pa_cons _ _ _ _ _ (@pe_bl _ _ _ _) (@pa_nil _) (by rfl)) (by rfl)) (by decide) (by rfl) (by rfl)) (@pe_int _ _ _ _) (fun _ _ => rfl)) (@pa_cons _ _ _ _ _ (@pe_bltn _ _ (v:=.ty "bool") _ _ rfl T.z_bool bt_bool rfl (by decide) (by decide)) (@pa_nil _) (by rfl)) (by rfl)) (by decide) (by decide) (by rfl) (by rfl)) (by intro _; rfl)) (@pss_one _ _ _ (@ps_ret _ _ _ _ (@pe_bl _ _ _ _))) (@pss_nil _)))))) (by intro _; rfl)) (@pss_cons _ _ _ _ _ (@ps_for _ _ _ _ _ _ _ _ PassesOwn.never rfl (@pi_list _ _ _ _ (@pe_lst _ _ _ _ (@pa_cons _ _ _ _ _ (@pe_non _ _ _) (@pa_cons _ _ _ _ _ (@pe_callTy _ _ _ _ _ _ _ _ _ call_tuple_of rfl T.z_tuple bt_tuple (@pa_cons _ _ _ _ _ (pv 2) (@pa_nil _) (by rfl)) (by decide) (by decide) (by rfl) (by rfl)) (@pa_cons _ _ _ _ _ (@pe_dnewK _ _) (@pa_cons _ _ _ _ _ (@pe_str _ _ _ _) (@pa_cons _ _ _ _ _ (@pe_int _ _ _ _) (@pa_nil _) (by rfl)) (by rfl)) (by rfl)) (by rfl)) (by rfl)))) (@pg_name _ _ (i:=8) _ sc_law.nd rfl (by first | exact Or.inl rfl | exact Or.inr rfl) (by first | exact .inl rfl | exact .inr rfl | assumption)) (@pss_one _ _ _ (@ps_if _ _ _ _ _ _ _ _ (@PW.pt _ _ _ (@pw_or _ _ _ _ _ _ _ (@pt_cmpR _ _ _ _ _ _ _ _ (op_neA hr.units) (@pe_callO _ _ _ _ _ _ _ _ _ _ o_at hr rfl (@pa_cons _ _ _ _ _ (pv 8) (@pa_cons _ _ _ _ _ (@pe_bl _ _ _ _) (@pa_nil _) (by rfl)) (by rfl)) (by decide) (by rfl) (by rfl)) (@pe_lst _ _ _ _ (@pa_cons _ _ _ _ _ (@pe_non _ _ _) (@pa_nil _) (by rfl))) (nomark _)) (@pw_or1 _ _ _ _ (@pt_cmpR _ _ _ _ _ _ _ _ (op_neA hr.units) (@pe_callO _ _ _ _ _ _ _ _ _ _ o_at hr rfl (@pa_cons _ _ _ _ _ (pv 8) (@pa_cons _ _ _ _ _ (@pe_bl _ _ _ _) (@pa_nil _) (by rfl)) (by rfl)) (by decide) (by rfl) (by rfl)) (@pe_lst _ _ _ _ (@pa_cons _ _ _ _ _ (@pe_non _ _ _) (@pa_nil _) (by rfl))) (nomark _))))) (@pss_one _ _ _ (@ps_ret _ _ _ _ (@pe_bl _ _ _ _))) (@pss_nil _))) (by intro _; rfl)) (@pss_one _ _ _ (@ps_ret _ _ _ _ (@pe_cmpR _ _ _ _ _ _ _ _ (op_eqA hr.units) (@pe_callX _ _ _ _ _ _ _ _ _ _ _ _ o_steps_of hr rfl passN (@pa_cons _ _ _ _ _ (pv 2) (@pa_nil _) (by rfl)) (by decide) (by rfl) (by rfl)) (pv 3) (nomark _))))))))),?_⟩
    walk_at "go"
    refine ⟨a,ns,60,rfl,hS,by decide,by decide,fun lb H1 i j o e n hb s1 hi hj hn1 hn2 hlb => ?_⟩
    have hU:=nmsB_post (o:=o) (e:=e) (n:=n) hi hj
    have hnd:=nmsB_nd (i:=i) (j:=j) (o:=o) (e:=e) (n:=n) (by omega)
    have hUl:=nmsB_len i j o e n
    generalize nmsB i j o e n = U at hU hnd hUl hlb
    walk_at "go"
    refine r_lenL (s1.seq hS) ?_
    walk_at "go"
    rw [List.length_map]
    refine r_rng2K (by decide) (by decide) (by split <;> omega) (by split <;> omega) ?_
    generalize hN:Int.toNat _ = N
    have hN60:N <= 30:=by rw [← hN]; (repeat' split) <;> omega
    clear hN
    refine r_compR (n:=N) (by omega) (fun acc i ys G => Same H1 G /\ ∃ ws:List Wsh,Paired (WishQ G) ys ws /\ ∀ w ∈ ws,w.ok) (fun acc h0 => ⟨Same.new h0,[],.nil,fun w hw => by simp at hw⟩) ?_ ?_
    . intro acc i ys G h0 hi hyl hG ⟨sG,ws,pw,ok⟩
      walk_at "go"
      refine ⟨a,ns,_,rfl,(s1.trans sG).seq hS,by omega,by omega,fun r hr0 => ?_⟩
      walk_at "go"
      refine ⟨r,lb,U,rfl,hr0,sG _ _ hlb,by omega,by omega,hnd,hU,fun v G1 w' s2 qw okw _ _ => ?_⟩
      have hG1:=s2 _ _ hG
      have kp:Kp acc G1 (upd G1 acc (.lst (ys ++ [v]))):=Kp.upd
      have tk:TK G1 (upd G1 acc (.lst (ys ++ [v]))):=TK.lst hG1
      refine c_next hi hyl hG1 ⟨kp.sm (sG.trans s2) h0,ws ++ [w'],Pd.snoc (Pd.imp pw fun v b h => h.tk (s2.tk.trans tk)) (qw.tk tk),fun x hx => ?_⟩
      rcases List.mem_append.mp hx with hx | hx
      . exact ok x hx
      . rw [List.mem_singleton.mp hx]
        exact okw
    intro lw ys G h0 hG hyl ⟨sG,ws,pw,ok⟩
    have hwl:ws.length <= 30:=by
      have:=Paired.length pw
      omega
    have hlb1:=sG _ _ hlb
    have hS1:=(s1.trans sG).seq hS
    walk_at "go"
    refine l_lst hG fun lh gh => ?_
    have sh:=Same.new (H:=G) (o:=.lst ys) gh
    have hh2:=upd_same (H:=G) (a:=lh) (o:=.lst ys)
    generalize upd G lh (.lst ys) = G2 at sh hh2 ⊢
    walk_at "go"
    refine ⟨_,rfl,.inl ⟨lh,ws,rfl,⟨ys,hh2,Pd.imp pw fun v b h => h.tk sh.tk⟩,ok,by omega,fun ld G3 hd s3 qd => ?_⟩⟩
    have s23:=sh.trans s3
    replace hG:=s23 _ _ hG
    replace pw:=Pd.imp pw fun v b h => WishQ.tk h s23.tk
    replace hlb1:=s23 _ _ hlb1
    replace hS1:=s23.seq hS1
    clear hh2 sh s3 s23 hd gh
    walk_at "go"
    refine r_lenL hS1 ?_
    walk_at "go"
    rw [List.length_map]
    obtain ⟨e',he,ee⟩:∃ e':Int,(33 <= e' /\ e' <= 60) /\ (if (if (60:Int) < (ns.length:Int) then (60:Int) else (ns.length:Int)) > 33 then (if (60:Int) < (ns.length:Int) then (60:Int) else (ns.length:Int)) else 33) = e':=⟨_,by split <;> split <;> omega,rfl⟩
    rw [ee]
    clear ee
    refine r_rng2K (by omega) (by omega) (by omega) (by omega) ?_
    refine r_forR (n:=(e' - 32).toNat) (fun i σ G => ∃ o4 o5 o6 o7 o8:Option V,σ = [some (.ref a),some (.ref lb),some (.ref lw),some (.ref ld),o4,o5,o6,o7,o8] /\ Same G3 G) ⟨_,_,_,_,_,rfl,Same.refl _⟩ ?_ ?_
    . rintro i σ G hi ⟨o4,o5,o6,o7,o8,rfl,sG⟩
      walk_at "go"
      refine ⟨a,ns,_,rfl,sG.seq hS1,by omega,by omega,fun r hr => ?_⟩
      walk_at "go"
      refine ⟨lw,ys,ws,_,lb,U,rfl,sG _ _ hG,Pd.imp pw fun v b h => h.tk sG.tk,ok,by omega,by omega,sG _ _ hlb1,by omega,by omega,hnd,hU,fun p lm zs ds i' K1 t1 gp hlm gm hzl hd1 hd2 hbad => ?_⟩
      walk_at "go"
      refine l_lst gm fun lh hlh => ?_
      have t2:=Same.new (o:=.lst zs) hlh
      have gh:=upd_same (H:=K1) (a:=lh) (o:=.lst zs)
      generalize L2.upd K1 lh (.lst zs) = K2 at t2 gh ⊢
      have gm2:=t2 _ _ gm
      have hb2:BadQ K K2 (.ref lh) (.int (i':Int)):=by
        rcases hbad.sm t2 with ⟨l',vs',i0,y,e1,h1,h2,h3,h4,h5,h6⟩ | ⟨_,e⟩
        . cases e1
          rw [gm2] at h1
          cases h1
          exact .inl ⟨lh,zs,i0,y,rfl,gh,h2,h3,h4,h5,h6⟩
        . cases e
      replace hd1:=denL_sm t2 hd1
      replace sG:=(sG.trans t1).trans t2
      clear hbad gp gm t1 t2 hlh
      walk_at "go"
      refine ⟨_,true,_,rfl,hb2,fun l3 K3 hl3 t3 g3 => ?_⟩
      walk_at "go"
      refine r_lstN fun l4 K4 n4 t4 g4 => ?_
      refine n_one (d:=.int (i':Int)) (t4 _ _ g3) g4 rfl (by simp [dep]) ?_
      have t34:=t3.trans t4
      walk_at "go"
      refine ⟨_,false,_,rfl,hb2.sm t34,fun l5 K5 hl5 t5 g5 => ?_⟩
      walk_at "go"
      refine r_lstN fun l6 K6 n6 t6 g6 => ?_
      refine n_one (d:=.int (i':Int)) (t6 _ _ g5) g6 rfl (by simp [dep]) ?_
      have t36:=(t34.trans t5).trans t6
      have hd6:=denL_sm t36 hd1
      walk_at "go"
      refine n_lst (ds:=ds) (es:=ds) ⟨lh,zs,rfl,t36 _ _ gh,hd6⟩ ⟨lm,zs,rfl,t36 _ _ gm2,hd6⟩ hd2 ?_
      rw [DenL.same_eq ds ds hd6 hd6]
      walk_at "go"
      refine ⟨_,true,_,rfl,hb2.sm t36,fun l7 K7 hl7 t7 g7 => ?_⟩
      walk_at "go"
      refine r_isTy (.int _) kit_int_bool ?_
      walk_at "go"
      exact ⟨_,_,_,_,_,rfl,(sG.trans t36).trans t7⟩
    rintro σ G ⟨o4,o5,o6,o7,o8,rfl,sG⟩
    have hGw:=sG _ _ hG
    walk_at "go"
    refine ⟨lw,_,rfl,.inl ⟨SqL.of hGw,fun pt hpt => ?_⟩⟩
    have t1:=Same.new (o:=.tup ys) hpt
    have g1:=upd_same (H:=G) (a:=pt) (o:=.tup ys)
    generalize L2.upd G pt (.tup ys) = K1 at t1 g1 ⊢
    walk_at "go"
    refine r_dnew fun dd hdd => ?_
    have t2:=Same.new (o:=.dK []) hdd
    have g2:=upd_same (H:=K1) (a:=dd) (o:=.dK [])
    generalize L2.upd K1 dd (.dK []) = K2 at t2 g2 ⊢
    walk_at "go"
    refine r_lstN fun l3 K3 n3 t3 g3 => ?_
    have hN:∀ x ∈ [V.non,.ref pt,.ref dd,.str "after",.int 5],NL K K3 x:=fun x hx => by
      simp only [List.mem_cons,List.not_mem_nil,or_false] at hx
      rcases hx with rfl | rfl | rfl | rfl | rfl
      . exact ⟨_,.non,kit_NoneType_list⟩
      . exact ⟨_,.tup (t3 _ _ (t2 _ _ g1)),kit_tuple_list⟩
      . exact ⟨_,.dK (t3 _ _ g2),kit_dict_list⟩
      . exact ⟨_,.str _,kit_str_list⟩
      . exact ⟨_,.int _,kit_int_list⟩
    refine r_listK (SqL.of g3) ?_
    refine r_forL (xs:=[.non,.ref pt,.ref dd,.str "after",.int 5]) (fun i σ G => ∃ o4 o5 o6 o7 o8:Option V,σ = [some (.ref a),some (.ref lb),some (.ref lw),some (.ref ld),o4,o5,o6,o7,o8] /\ Same K3 G) ⟨_,_,_,_,_,rfl,Same.refl _⟩ ?_ ?_ ?_
    . rintro i σ G hi ⟨o4,o5,o6,o7,o8,rfl,s4⟩
      exact SqL.of (s4 _ _ g3)
    . rintro i x σ G' hx ⟨o4,o5,o6,o7,o8,rfl,s4⟩
      obtain ⟨ty,h1,h2⟩:=hN x (List.mem_of_getElem? hx)
      have hb2:BadQ K G' x .non:=.inr ⟨⟨ty,h1.sm s4,h2⟩,rfl⟩
      walk_at "go"
      refine ⟨_,true,_,rfl,hb2,fun l3' K4 hl3 t4 g4 => ?_⟩
      walk_at "go"
      refine r_lstN fun l5 K5 n5 t5 g5 => ?_
      refine n_one (d:=.non) (t5 _ _ g4) g5 rfl (by simp [dep]) ?_
      walk_at "go"
      refine ⟨_,false,_,rfl,hb2.sm (t4.trans t5),fun l6 K6 hl6 t6 g6 => ?_⟩
      walk_at "go"
      refine r_lstN fun l7 K7 n7 t7 g7 => ?_
      refine n_one (d:=.non) (t7 _ _ g6) g7 rfl (by simp [dep]) ?_
      walk_at "go"
      exact ⟨_,_,_,_,_,rfl,(((s4.trans t4).trans t5).trans t6).trans t7⟩
    rintro σ G' ⟨o4,o5,o6,o7,o8,rfl,s4⟩
    have s5:=(((sG.trans t1).trans t2).trans t3).trans s4
    walk_at "go"
    refine ⟨_,rfl,.inl ⟨lw,ws,rfl,⟨ys,s5 _ _ hG,Pd.imp pw fun v b h => WishQ.tk h s5.tk⟩,ok,by omega,fun lf K6 hlf s6 qf => ?_⟩⟩
    walk_at "go"
    refine e_like (f:=dStep) (fun v b h => h.den) dep_step qf (qd.sm StepQ.tk (s5.trans s6)) ?_
    walk_at "go"
    exact q _
end
set_option maxHeartbeats 0 in
theorem all_mk {l:PySem.W.OpenLaw} {w:World} {K:PySem.W.Frag} {h:Heap} {mg:Str -> Option Value} {fa:Addr} (X:K.In h) (G:h.Ns mainGlobals mg) (hfa:mg "law" = some (.ref fa)) {f0:Addr} {oc0:Value} {od0 an0:Option Addr} {sl0:Array (Option Value)} {kV0 dc0 pm0 cd0 ct0:Value} {f1:Addr} {oc1:Value} {od1 an1:Option Addr} {sl1:Array (Option Value)} {kV1 dc1 pm1 cd1 ct1:Value} {f2:Addr} {oc2:Value} {od2 an2:Option Addr} {sl2:Array (Option Value)} {kV2 dc2 pm2 cd2 ct2:Value} {f3:Addr} {oc3:Value} {od3 an3:Option Addr} {sl3:Array (Option Value)} {kV3 dc3 pm3 cd3 ct3:Value} {f4:Addr} {oc4:Value} {od4 an4:Option Addr} {sl4:Array (Option Value)} {kV4 dc4 pm4 cd4 ct4:Value} {f5:Addr} {oc5:Value} {od5 an5:Option Addr} {sl5:Array (Option Value)} {kV5 dc5 pm5 cd5 ct5:Value} {f6:Addr} {oc6:Value} {od6 an6:Option Addr} {sl6:Array (Option Value)} {kV6 dc6 pm6 cd6 ct6:Value} {f7:Addr} {oc7:Value} {od7 an7:Option Addr} {sl7:Array (Option Value)} {kV7 dc7 pm7 cd7 ct7:Value} {f8:Addr} {oc8:Value} {od8 an8:Option Addr} {sl8:Array (Option Value)} {kV8 dc8 pm8 cd8 ct8:Value} {f9:Addr} {oc9:Value} {od9 an9:Option Addr} {sl9:Array (Option Value)} {kV9 dc9 pm9 cd9 ct9:Value} {f10:Addr} {oc10:Value} {od10 an10:Option Addr} {sl10:Array (Option Value)} {kV10 dc10 pm10 cd10 ct10:Value} {f11:Addr} {oc11:Value} {od11 an11:Option Addr} {sl11:Array (Option Value)} {kV11 dc11 pm11 cd11 ct11:Value} {f12:Addr} {oc12:Value} {od12 an12:Option Addr} {sl12:Array (Option Value)} {kV12 dc12 pm12 cd12 ct12:Value} {f13:Addr} {oc13:Value} {od13 an13:Option Addr} {sl13:Array (Option Value)} {kV13 dc13 pm13 cd13 ct13:Value} {f14:Addr} {oc14:Value} {od14 an14:Option Addr} {sl14:Array (Option Value)} {kV14 dc14 pm14 cd14 ct14:Value} {f15:Addr} {oc15:Value} {od15 an15:Option Addr} {sl15:Array (Option Value)} {kV15 dc15 pm15 cd15 ct15:Value} {f16:Addr} {oc16:Value} {od16 an16:Option Addr} {sl16:Array (Option Value)} {kV16 dc16 pm16 cd16 ct16:Value} {f17:Addr} {oc17:Value} {od17 an17:Option Addr} {sl17:Array (Option Value)} {kV17 dc17 pm17 cd17 ct17:Value} {f18:Addr} {oc18:Value} {od18 an18:Option Addr} {sl18:Array (Option Value)} {kV18 dc18 pm18 cd18 ct18:Value} {f19:Addr} {oc19:Value} {od19 an19:Option Addr} {sl19:Array (Option Value)} {kV19 dc19 pm19 cd19 ct19:Value} {f20:Addr} {oc20:Value} {od20 an20:Option Addr} {sl20:Array (Option Value)} {kV20 dc20 pm20 cd20 ct20:Value} {f21:Addr} {oc21:Value} {od21 an21:Option Addr} {sl21:Array (Option Value)} {kV21 dc21 pm21 cd21 ct21:Value} {xt x0 x1 x5 x6 x11:Addr} {cd_NoWish:ClassData} {fI:Addr} {ocI:Value} {odI anI:Option Addr} {slI:Array (Option Value)} {kVI dcI pmI cdI ctI:Value} {tk_LETTERS:Tok} {tk_MOST_LETTERS:Tok} {tk_MOST_PARTS:Tok}
    (a0:PySem.W.nsIn K mainGlobals "is_whole" = some (some (.ref f0))) (l0:K.lookup f0 = some ⟨oc0,od0,.func (PySem.W.fnOf "is_whole" "is_whole" (defArgs s_is_whole) (defBody s_is_whole) (defScope s_is_whole) .none kV0 dc0 pm0 an0 cd0 ct0),sl0⟩) (c0:PySem.W.codeIn K cd0 "is_whole" = true) (k0:PySem.W.keepIn K (.ref f0) = true)
    (a1:PySem.W.nsIn K mainGlobals "common_divisor" = some (some (.ref f1))) (l1:K.lookup f1 = some ⟨oc1,od1,.func (PySem.W.fnOf "common_divisor" "common_divisor" (defArgs s_common_divisor) (defBody s_common_divisor) (defScope s_common_divisor) .none kV1 dc1 pm1 an1 cd1 ct1),sl1⟩) (c1:PySem.W.codeIn K cd1 "common_divisor" = true) (k1:PySem.W.keepIn K (.ref f1) = true)
    (a2:PySem.W.nsIn K mainGlobals "is_fraction" = some (some (.ref f2))) (l2:K.lookup f2 = some ⟨oc2,od2,.func (PySem.W.fnOf "is_fraction" "is_fraction" (defArgs s_is_fraction) (defBody s_is_fraction) (defScope s_is_fraction) .none kV2 dc2 pm2 an2 cd2 ct2),sl2⟩) (c2:PySem.W.codeIn K cd2 "is_fraction" = true) (k2:PySem.W.keepIn K (.ref f2) = true)
    (a3:PySem.W.nsIn K mainGlobals "is_moment" = some (some (.ref f3))) (l3:K.lookup f3 = some ⟨oc3,od3,.func (PySem.W.fnOf "is_moment" "is_moment" (defArgs s_is_moment) (defBody s_is_moment) (defScope s_is_moment) .none kV3 dc3 pm3 an3 cd3 ct3),sl3⟩) (c3:PySem.W.codeIn K cd3 "is_moment" = true) (k3:PySem.W.keepIn K (.ref f3) = true)
    (a4:PySem.W.nsIn K mainGlobals "is_part" = some (some (.ref f4))) (l4:K.lookup f4 = some ⟨oc4,od4,.func (PySem.W.fnOf "is_part" "is_part" (defArgs s_is_part) (defBody s_is_part) (defScope s_is_part) .none kV4 dc4 pm4 an4 cd4 ct4),sl4⟩) (c4:PySem.W.codeIn K cd4 "is_part" = true) (k4:PySem.W.keepIn K (.ref f4) = true)
    (a5:PySem.W.nsIn K mainGlobals "is_post" = some (some (.ref f5))) (l5:K.lookup f5 = some ⟨oc5,od5,.func (PySem.W.fnOf "is_post" "is_post" (defArgs s_is_post) (defBody s_is_post) (defScope s_is_post) .none kV5 dc5 pm5 an5 cd5 ct5),sl5⟩) (c5:PySem.W.codeIn K cd5 "is_post" = true) (k5:PySem.W.keepIn K (.ref f5) = true)
    (a6:PySem.W.nsIn K mainGlobals "is_pair" = some (some (.ref f6))) (l6:K.lookup f6 = some ⟨oc6,od6,.func (PySem.W.fnOf "is_pair" "is_pair" (defArgs s_is_pair) (defBody s_is_pair) (defScope s_is_pair) .none kV6 dc6 pm6 an6 cd6 ct6),sl6⟩) (c6:PySem.W.codeIn K cd6 "is_pair" = true) (k6:PySem.W.keepIn K (.ref f6) = true)
    (a7:PySem.W.nsIn K mainGlobals "is_wish" = some (some (.ref f7))) (l7:K.lookup f7 = some ⟨oc7,od7,.func (PySem.W.fnOf "is_wish" "is_wish" (defArgs s_is_wish) (defBody s_is_wish) (defScope s_is_wish) .none kV7 dc7 pm7 an7 cd7 ct7),sl7⟩) (c7:PySem.W.codeIn K cd7 "is_wish" = true) (k7:PySem.W.keepIn K (.ref f7) = true)
    (a8:PySem.W.nsIn K mainGlobals "refuse_no_wishes" = some (some (.ref f8))) (l8:K.lookup f8 = some ⟨oc8,od8,.func (PySem.W.fnOf "refuse_no_wishes" "refuse_no_wishes" (defArgs s_refuse_no_wishes) (defBody s_refuse_no_wishes) (defScope s_refuse_no_wishes) .none kV8 dc8 pm8 an8 cd8 ct8),sl8⟩) (c8:PySem.W.codeIn K cd8 "refuse_no_wishes" = true) (k8:PySem.W.keepIn K (.ref f8) = true)
    (a9:PySem.W.nsIn K mainGlobals "steps_by" = some (some (.ref f9))) (l9:K.lookup f9 = some ⟨oc9,od9,.func (PySem.W.fnOf "steps_by" "steps_by" (defArgs s_steps_by) (defBody s_steps_by) (defScope s_steps_by) .none kV9 dc9 pm9 an9 cd9 ct9),sl9⟩) (c9:PySem.W.codeIn K cd9 "steps_by" = true) (k9:PySem.W.keepIn K (.ref f9) = true)
    (a10:PySem.W.nsIn K mainGlobals "steps_of" = some (some (.ref f10))) (l10:K.lookup f10 = some ⟨oc10,od10,.func (PySem.W.fnOf "steps_of" "steps_of" (defArgs s_steps_of) (defBody s_steps_of) (defScope s_steps_of) .none kV10 dc10 pm10 an10 cd10 ct10),sl10⟩) (c10:PySem.W.codeIn K cd10 "steps_of" = true) (k10:PySem.W.keepIn K (.ref f10) = true)
    (a11:PySem.W.nsIn K mainGlobals "played_at" = some (some (.ref f11))) (l11:K.lookup f11 = some ⟨oc11,od11,.func (PySem.W.fnOf "played_at" "played_at" (defArgs s_played_at) (defBody s_played_at) (defScope s_played_at) .none kV11 dc11 pm11 an11 cd11 ct11),sl11⟩) (c11:PySem.W.codeIn K cd11 "played_at" = true) (k11:PySem.W.keepIn K (.ref f11) = true)
    (a12:PySem.W.nsIn K mainGlobals "_law_cell_at" = some (some (.ref f12))) (l12:K.lookup f12 = some ⟨oc12,od12,.func (PySem.W.fnOf "_law_cell_at" "_law_cell_at" (defArgs s_cell_at) (defBody s_cell_at) (defScope s_cell_at) .none kV12 dc12 pm12 an12 cd12 ct12),sl12⟩) (c12:PySem.W.codeIn K cd12 "_law_cell_at" = true) (k12:PySem.W.keepIn K (.ref f12) = true)
    (a13:PySem.W.nsIn K mainGlobals "_law_number" = some (some (.ref f13))) (l13:K.lookup f13 = some ⟨oc13,od13,.func (PySem.W.fnOf "_law_number" "_law_number" (defArgs s_number) (defBody s_number) (defScope s_number) .none kV13 dc13 pm13 an13 cd13 ct13),sl13⟩) (c13:PySem.W.codeIn K cd13 "_law_number" = true) (k13:PySem.W.keepIn K (.ref f13) = true)
    (a14:PySem.W.nsIn K mainGlobals "_law_lowest" = some (some (.ref f14))) (l14:K.lookup f14 = some ⟨oc14,od14,.func (PySem.W.fnOf "_law_lowest" "_law_lowest" (defArgs s_lowest) (defBody s_lowest) (defScope s_lowest) .none kV14 dc14 pm14 an14 cd14 ct14),sl14⟩) (c14:PySem.W.codeIn K cd14 "_law_lowest" = true) (k14:PySem.W.keepIn K (.ref f14) = true)
    (a15:PySem.W.nsIn K mainGlobals "_law_share" = some (some (.ref f15))) (l15:K.lookup f15 = some ⟨oc15,od15,.func (PySem.W.fnOf "_law_share" "_law_share" (defArgs s_share) (defBody s_share) (defScope s_share) .none kV15 dc15 pm15 an15 cd15 ct15),sl15⟩) (c15:PySem.W.codeIn K cd15 "_law_share" = true) (k15:PySem.W.keepIn K (.ref f15) = true)
    (a16:PySem.W.nsIn K mainGlobals "_law_bells" = some (some (.ref f16))) (l16:K.lookup f16 = some ⟨oc16,od16,.func (PySem.W.fnOf "_law_bells" "_law_bells" (defArgs s_bells) (defBody s_bells) (defScope s_bells) .none kV16 dc16 pm16 an16 cd16 ct16),sl16⟩) (c16:PySem.W.codeIn K cd16 "_law_bells" = true) (k16:PySem.W.keepIn K (.ref f16) = true)
    (a17:PySem.W.nsIn K mainGlobals "_law_wish" = some (some (.ref f17))) (l17:K.lookup f17 = some ⟨oc17,od17,.func (PySem.W.fnOf "_law_wish" "_law_wish" (defArgs s_wish) (defBody s_wish) (defScope s_wish) .none kV17 dc17 pm17 an17 cd17 ct17),sl17⟩) (c17:PySem.W.codeIn K cd17 "_law_wish" = true) (k17:PySem.W.keepIn K (.ref f17) = true)
    (a18:PySem.W.nsIn K mainGlobals "_law_odd" = some (some (.ref f18))) (l18:K.lookup f18 = some ⟨oc18,od18,.func (PySem.W.fnOf "_law_odd" "_law_odd" (defArgs s_odd) (defBody s_odd) (defScope s_odd) .none kV18 dc18 pm18 an18 cd18 ct18),sl18⟩) (c18:PySem.W.codeIn K cd18 "_law_odd" = true) (k18:PySem.W.keepIn K (.ref f18) = true)
    (a19:PySem.W.nsIn K mainGlobals "_law_at" = some (some (.ref f19))) (l19:K.lookup f19 = some ⟨oc19,od19,.func (PySem.W.fnOf "_law_at" "_law_at" (defArgs s_at) (defBody s_at) (defScope s_at) .none kV19 dc19 pm19 an19 cd19 ct19),sl19⟩) (c19:PySem.W.codeIn K cd19 "_law_at" = true) (k19:PySem.W.keepIn K (.ref f19) = true)
    (a20:PySem.W.nsIn K mainGlobals "_law_spoilt" = some (some (.ref f20))) (l20:K.lookup f20 = some ⟨oc20,od20,.func (PySem.W.fnOf "_law_spoilt" "_law_spoilt" (defArgs s_spoilt) (defBody s_spoilt) (defScope s_spoilt) .none kV20 dc20 pm20 an20 cd20 ct20),sl20⟩) (c20:PySem.W.codeIn K cd20 "_law_spoilt" = true) (k20:PySem.W.keepIn K (.ref f20) = true)
    (a21:PySem.W.nsIn K mainGlobals "law" = some (some (.ref f21))) (l21:K.lookup f21 = some ⟨oc21,od21,.func (PySem.W.fnOf "law" "law" (defArgs s_law) (defBody s_law) (defScope s_law) .none kV21 dc21 pm21 an21 cd21 ct21),sl21⟩) (c21:PySem.W.codeIn K cd21 "law" = true) (k21:PySem.W.keepIn K (.ref f21) = true)
    (bT:PySem.W.nsIn K mainGlobals "TileError" = some (some (.ref xt))) (b0:PySem.W.nsIn K mainGlobals "NoNumber" = some (some (.ref x0))) (b1:PySem.W.nsIn K mainGlobals "NoNet" = some (some (.ref x1))) (b5:PySem.W.nsIn K mainGlobals "NoText" = some (some (.ref x5))) (b6:PySem.W.nsIn K mainGlobals "NoPost" = some (some (.ref x6))) (b11:PySem.W.nsIn K mainGlobals "NoWish" = some (some (.ref x11))) (zV:PySem.W.nsIn K mainGlobals "ValueError" = some none)
    (ga_NoWish:PySem.W.findIn K (.ref x11) "__getattribute__" = some (some (.builtin "BaseException.__getattribute__"))) (gt_NoWish:PySem.W.findIn K (.ref x11) "__getattr__" = some none) (ca_NoWish:PySem.W.findIn K (.ref x11) "__class__" = some (some (.builtin "object.__class__"))) (ob_NoWish:PySem.W.subIn K (.ref x11) (.type "object") = some true) (be_NoWish:PySem.W.subIn K (.ref x11) (.type "BaseException") = some true) (ic_NoWish:PySem.W.clsIn K x11 = some cd_NoWish) (ve_NoWish:PySem.W.kitOne K (.ref x11) (.type "ValueError") = some true) (tt_NoWish:PySem.W.exmOne K (.ref x11) (.ref xt) = some true) (sa_NoWish:PySem.W.findIn K (.ref x11) "__setattr__" = some (some (.builtin "object.__setattr__"))) (na_NoWish:PySem.W.findIn K (.ref x11) "at" = some none) (sv_NoWish:PySem.W.subIn K (.ref x11) (.type "ValueError") = some true) (hd_NoWish:cd_NoWish.hasDict = true) (mr_NoWish:cd_NoWish.mro = [.ref x11,.ref xt,.type "ValueError",.type "Exception",.type "BaseException",.type "object"]) (tg_NoWish:PySem.W.specialIn K (.ref xt) "__getattribute__" = some (some (.builtin "type.__getattribute__"))) (tr_NoWish:PySem.W.readsIn K xt (.type "type") = true) (tf_NoWish:PySem.W.findCls K (.ref xt) (.type "type") "__init__" = some (.val (.builtin "ValueError.__init__"))) (fi_NoWish:PySem.W.findIn K (.ref x11) "__init__" = some (some (.ref fI))) (li_NoWish:K.lookup fI = some ⟨ocI,odI,.func (PySem.W.fnOf "__init__" "NoWish.__init__" (defArgs s_init) (defBody s_init) (defScope s_init) .none kVI dcI pmI anI cdI ctI),slI⟩) (ci_NoWish:PySem.W.codeIn K cdI "NoWish.__init__" = true) (ei_NoWish:excInI K x11 fI = true) (ni_NoWish:PySem.W.isFn K (.ref fI) = true)
    (k0_NoWish:PySem.W.kitOne K (.ref x11) (.ref x0) = some (Nat.beq 0 11)) (k1_NoWish:PySem.W.kitOne K (.ref x11) (.ref x1) = some (Nat.beq 1 11)) (k5_NoWish:PySem.W.kitOne K (.ref x11) (.ref x5) = some (Nat.beq 5 11)) (k6_NoWish:PySem.W.kitOne K (.ref x11) (.ref x6) = some (Nat.beq 6 11)) (k11_NoWish:PySem.W.kitOne K (.ref x11) (.ref x11) = some (Nat.beq 11 11))
    (gl_LETTERS:PySem.W.nsIn K mainGlobals "LETTERS" = some (some (.str "abcdefghijklmnopqrstuvwxyz" tk_LETTERS)))
    (gl_MOST_LETTERS:PySem.W.nsIn K mainGlobals "MOST_LETTERS" = some (some (.int 8 tk_MOST_LETTERS)))
    (gl_MOST_PARTS:PySem.W.nsIn K mainGlobals "MOST_PARTS" = some (some (.int 4 tk_MOST_PARTS)))
    (z_int:PySem.W.nsIn K mainGlobals "int" = some none)
    (z_bool:PySem.W.nsIn K mainGlobals "bool" = some none)
    (z_str:PySem.W.nsIn K mainGlobals "str" = some none)
    (z_list:PySem.W.nsIn K mainGlobals "list" = some none)
    (z_tuple:PySem.W.nsIn K mainGlobals "tuple" = some none)
    (z_dict:PySem.W.nsIn K mainGlobals "dict" = some none)
    (z_set:PySem.W.nsIn K mainGlobals "set" = some none)
    (z_range:PySem.W.nsIn K mainGlobals "range" = some none)
    (z_enumerate:PySem.W.nsIn K mainGlobals "enumerate" = some none)
    (z_zip:PySem.W.nsIn K mainGlobals "zip" = some none)
    (z_reversed:PySem.W.nsIn K mainGlobals "reversed" = some none)
    (z_len:PySem.W.nsIn K mainGlobals "len" = some none)
    (z_abs:PySem.W.nsIn K mainGlobals "abs" = some none)
    (z_max:PySem.W.nsIn K mainGlobals "max" = some none)
    (z_min:PySem.W.nsIn K mainGlobals "min" = some none)
    (z_isinstance:PySem.W.nsIn K mainGlobals "isinstance" = some none)
    (z_sorted:PySem.W.nsIn K mainGlobals "sorted" = some none)
    (z_all:PySem.W.nsIn K mainGlobals "all" = some none)
    (z_any:PySem.W.nsIn K mainGlobals "any" = some none)
    (z_sum:PySem.W.nsIn K mainGlobals "sum" = some none) :
    ∃ fd:FuncData,(∀ (s:Shared) (v:Value),BindsTo s fd ⟨[v],[]⟩ [("_law_script",v)]) /\ ∀ base:Heap,K.In base -> base.Ns mainGlobals mg -> FnOk l.prog w K mg base CX0 9 fa fd ["_law_script"] (spLaw K):=by
  have e:=hfa.symm.trans (PySem.W.mg_of X G a21)
  cases e
  have T:Bl mg:=⟨PySem.W.mg_none_of X G z_int,PySem.W.mg_none_of X G z_bool,PySem.W.mg_none_of X G z_str,PySem.W.mg_none_of X G z_list,PySem.W.mg_none_of X G z_tuple,PySem.W.mg_none_of X G z_dict,PySem.W.mg_none_of X G z_set,PySem.W.mg_none_of X G z_range,PySem.W.mg_none_of X G z_enumerate,PySem.W.mg_none_of X G z_zip,PySem.W.mg_none_of X G z_reversed,PySem.W.mg_none_of X G z_len,PySem.W.mg_none_of X G z_abs,PySem.W.mg_none_of X G z_max,PySem.W.mg_none_of X G z_min,PySem.W.mg_none_of X G z_isinstance,PySem.W.mg_none_of X G z_sorted,PySem.W.mg_none_of X G z_all,PySem.W.mg_none_of X G z_any,PySem.W.mg_none_of X G z_sum⟩
  have W:XmS mg xt x0 x1 x5 x6 x11:=⟨PySem.W.mg_of X G bT,PySem.W.mg_of X G b0,PySem.W.mg_of X G b1,PySem.W.mg_of X G b5,PySem.W.mg_of X G b6,PySem.W.mg_of X G b11,PySem.W.mg_none_of X G zV⟩
  have R_NoWish:XrS K xt x0 x1 x5 x6 x11 x11 11:=⟨⟨ga_NoWish,gt_NoWish,ca_NoWish,ob_NoWish,be_NoWish,by rw [ic_NoWish]; rfl⟩,⟨sa_NoWish,na_NoWish,⟨_,ic_NoWish,hd_NoWish,mr_NoWish⟩,sv_NoWish⟩,⟨tg_NoWish,tr_NoWish,tf_NoWish⟩,ve_NoWish,tt_NoWish,k0_NoWish,k1_NoWish,k5_NoWish,k6_NoWish,k11_NoWish⟩
  have d_is_whole:Df K mg "is_whole" s_is_whole ["thing"]:=df_mk X G a0 l0 c0 k0 (el_1 fun _ => rfl)
  have d_common_divisor:Df K mg "common_divisor" s_common_divisor ["one","other"]:=df_mk X G a1 l1 c1 k1 (el_2 fun _ _ => rfl)
  have d_is_fraction:Df K mg "is_fraction" s_is_fraction ["thing"]:=df_mk X G a2 l2 c2 k2 (el_1 fun _ => rfl)
  have d_is_moment:Df K mg "is_moment" s_is_moment ["thing"]:=df_mk X G a3 l3 c3 k3 (el_1 fun _ => rfl)
  have d_is_part:Df K mg "is_part" s_is_part ["text"]:=df_mk X G a4 l4 c4 k4 (el_1 fun _ => rfl)
  have d_is_post:Df K mg "is_post" s_is_post ["thing"]:=df_mk X G a5 l5 c5 k5 (el_1 fun _ => rfl)
  have d_is_pair:Df K mg "is_pair" s_is_pair ["one","other"]:=df_mk X G a6 l6 c6 k6 (el_2 fun _ _ => rfl)
  have d_is_wish:Df K mg "is_wish" s_is_wish ["thing"]:=df_mk X G a7 l7 c7 k7 (el_1 fun _ => rfl)
  have d_refuse_no_wishes:Df K mg "refuse_no_wishes" s_refuse_no_wishes ["wishes"]:=df_mk X G a8 l8 c8 k8 (el_1 fun _ => rfl)
  have d_steps_by:Df K mg "steps_by" s_steps_by ["number","wish"]:=df_mk X G a9 l9 c9 k9 (el_2 fun _ _ => rfl)
  have d_steps_of:Df K mg "steps_of" s_steps_of ["wishes"]:=df_mk X G a10 l10 c10 k10 (el_1 fun _ => rfl)
  have d_played_at:Df K mg "played_at" s_played_at ["wishes"]:=df_mk X G a11 l11 c11 k11 (el_1 fun _ => rfl)
  have d_cell_at:Df K mg "_law_cell_at" s_cell_at ["_law_script","_law_k"]:=df_mk X G a12 l12 c12 k12 (el_2 fun _ _ => rfl)
  have d_number:Df K mg "_law_number" s_number ["_law_script","_law_k"]:=df_mk X G a13 l13 c13 k13 (el_2 fun _ _ => rfl)
  have d_lowest:Df K mg "_law_lowest" s_lowest ["_law_top","_law_bottom"]:=df_mk X G a14 l14 c14 k14 (el_2 fun _ _ => rfl)
  have d_share:Df K mg "_law_share" s_share ["_law_number_here"]:=df_mk X G a15 l15 c15 k15 (el_1 fun _ => rfl)
  have d_bells:Df K mg "_law_bells" s_bells ["_law_script","_law_most"]:=df_mk X G a16 l16 c16 k16 (el_2 fun _ _ => rfl)
  have d_wish:Df K mg "_law_wish" s_wish ["_law_number_here","_law_bells_here"]:=df_mk X G a17 l17 c17 k17 (el_2 fun _ _ => rfl)
  have d_odd:Df K mg "_law_odd" s_odd ["_law_number_here","_law_bells_here"]:=df_mk X G a18 l18 c18 k18 (el_2 fun _ _ => rfl)
  have d_at:Df K mg "_law_at" s_at ["_law_wishes","_law_way"]:=df_mk X G a19 l19 c19 k19 (el_2 fun _ _ => rfl)
  have d_spoilt:Df K mg "_law_spoilt" s_spoilt ["_law_wishes","_law_number_here","_law_bells_here"]:=df_mk X G a20 l20 c20 k20 (el_3 fun _ _ _ => rfl)
  have FL:=fun_mk (st:=s_law) l21 c21 k21
  refine ⟨PySem.W.fnOf "law" "law" (defArgs s_law) (defBody s_law) (defScope s_law) .none kV21 dc21 pm21 an21 cd21 ct21,fun s v => .of_eq rfl,fun base _ _ => ?_⟩
  have o_init:=ok_init (P:=l.prog) (w:=w) (mg:=mg) (base:=base) (k:=0) T (dfm_mk li_NoWish ci_NoWish ei_NoWish ni_NoWish (el_2 fun _ _ => rfl)) W R_NoWish
  have o_is_whole:Okf l.prog w K mg base 1 "is_whole" ["thing"]   (spWhole K):=ok_is_whole (k:=0) T d_is_whole W R_NoWish
  have o_common_divisor:Okf l.prog w K mg base 1 "common_divisor" ["one","other"]   spGcd:=ok_common_divisor (k:=0) T d_common_divisor W R_NoWish
  have o_is_fraction:Okf l.prog w K mg base 2 "is_fraction" ["thing"]   (spIsFrac K):=ok_is_fraction (k:=1) T d_is_fraction W R_NoWish (o_common_divisor.mono (by decide)) (o_is_whole.mono (by decide))
  have o_is_moment:Okf l.prog w K mg base 3 "is_moment" ["thing"]   (spMomQ K):=ok_is_moment (k:=2) T d_is_moment W R_NoWish (o_is_fraction.mono (by decide))
  have o_is_part:Okf l.prog w K mg base 1 "is_part" ["text"]   spPart:=ok_is_part (k:=0) T d_is_part W R_NoWish (PySem.W.mg_of X G gl_LETTERS) (PySem.W.mg_of X G gl_MOST_LETTERS)
  have o_is_post:Okf l.prog w K mg base 2 "is_post" ["thing"]   (spPost K):=ok_is_post (k:=1) T d_is_post W R_NoWish (PySem.W.mg_of X G gl_MOST_PARTS) (o_is_part.mono (by decide))
  have o_is_pair:Okf l.prog w K mg base 3 "is_pair" ["one","other"]   (spPairQ K):=ok_is_pair (k:=2) T d_is_pair W R_NoWish (o_is_post.mono (by decide))
  have o_is_wish:Okf l.prog w K mg base 4 "is_wish" ["thing"]   (spIsWish K):=ok_is_wish (k:=3) T d_is_wish W R_NoWish (o_is_pair.mono (by decide)) (o_is_moment.mono (by decide)) (o_is_post.mono (by decide)) (o_is_fraction.mono (by decide))
  have o_refuse_no_wishes:=ok_refuse_no_wishes (P:=l.prog) (w:=w) (base:=base) (k:=4) T d_refuse_no_wishes W R_NoWish (o_is_wish.mono (by decide)) (o_init.mono (by decide))
  have o_steps_by:Okf l.prog w K mg base 1 "steps_by" ["number","wish"]   spStepsBy:=ok_steps_by (k:=0) T d_steps_by W R_NoWish
  have o_steps_of:=ok_steps_of (P:=l.prog) (w:=w) (base:=base) (k:=5) T d_steps_of W R_NoWish (o_steps_by.mono (by decide)) (o_refuse_no_wishes.mono (by decide))
  have o_played_at:=ok_played_at (P:=l.prog) (w:=w) (base:=base) (k:=6) T d_played_at W R_NoWish (o_steps_of.mono (by decide))
  have o_cell_at:Okf l.prog w K mg base 1 "_law_cell_at" ["_law_script","_law_k"]   (spCell K):=ok_cell_at (k:=0) T d_cell_at W R_NoWish
  have o_number:Okf l.prog w K mg base 2 "_law_number" ["_law_script","_law_k"]   (spNumW K):=ok_number (k:=1) T d_number W R_NoWish (o_cell_at.mono (by decide))
  have o_lowest:Okf l.prog w K mg base 1 "_law_lowest" ["_law_top","_law_bottom"]   spLowest:=ok_lowest (k:=0) T d_lowest W R_NoWish
  have o_share:Okf l.prog w K mg base 2 "_law_share" ["_law_number_here"]   spShareW:=ok_share (k:=1) T d_share W R_NoWish (o_lowest.mono (by decide))
  have o_bells:Okf l.prog w K mg base 3 "_law_bells" ["_law_script","_law_most"]   (spBells K):=ok_bells (k:=2) T d_bells W R_NoWish (o_number.mono (by decide))
  have o_wish:Okf l.prog w K mg base 3 "_law_wish" ["_law_number_here","_law_bells_here"]   (spWish K):=ok_wish (k:=2) T d_wish W R_NoWish (o_share.mono (by decide))
  have o_odd:Okf l.prog w K mg base 1 "_law_odd" ["_law_number_here","_law_bells_here"]   (spOdd52 K):=ok_odd (k:=0) T d_odd W R_NoWish
  have o_at:Okf l.prog w K mg base 8 "_law_at" ["_law_wishes","_law_way"]   (spAt52 K):=ok_at (k:=7) T d_at W R_NoWish (o_steps_of.mono (by decide)) (o_played_at.mono (by decide))
  have o_spoilt:Okf l.prog w K mg base 2 "_law_spoilt" ["_law_wishes","_law_number_here","_law_bells_here"]   (spSpoilt52 K):=ok_spoilt (k:=1) T d_spoilt W R_NoWish (o_odd.mono (by decide))
  exact ok_law (k:=8) T FL W R_NoWish (o_steps_of.mono (by decide)) (o_at.mono (by decide)) (o_number.mono (by decide)) (o_spoilt.mono (by decide)) (o_wish.mono (by decide)) (o_bells.mono (by decide))
theorem walk {l:PySem.W.OpenLaw} {q:Program} {loose:List Str} {XP:(Str -> Option Value) -> Heap -> Prop} {YP:World -> Heap -> Prop} {d:DefRec} {K:Params -> PySem.W.Frag} (hn:l.most = some 63) (hdf:d.params.defaults = [])
    (hY:∀ (w:World) (h:Heap),YP w h -> (K w.params).In h)
    (F:∀ (w:World) (mg:Str -> Option Value) (fa:Addr) (h:Heap),(K w.params).In h -> h.Ns mainGlobals mg -> mg d.name = some (.ref fa) ->
      ∃ fd:FuncData,(∀ (s:Shared) (u:Value),BindsTo s fd ⟨[u],[]⟩ [("_law_script",u)]) /\ ∀ base:Heap,(K w.params).In base -> base.Ns mainGlobals mg -> FnOk l.prog w (K w.params) mg base CX0 9 fa fd ["_law_script"] (spLaw (K w.params))) :
    PySem.W.WalkO q loose XP YP l.row.toRowW d [] (fun f vs => PySem.call f vs) :=
  L2.walk_of (n:=63) (k:=9) (x:="_law_script") (CX:=fun _ => CX0) (sp:=fun w => spLaw (K w.params)) hn (by decide) hdf ⟨rfl,by decide,by decide⟩ hY F (fun _ _ a ns hl _ hS => ⟨a,ns,rfl,hS,hl,fun _ => rfl⟩) fun _ _ _ _ _ z => z
open PySem.W in
theorem zwalk {q:Program} {loose:List Str} {XP:(Str -> Option Value) -> Heap -> Prop} {r:RowW} {d:DefRec} {kwd:List (Str×Expr)} {run:Value -> List Value -> Sem Value} {K:Params -> Frag} {as:List Addr} {n t:Nat} (e:∀ P:Params,as = List.map (fun x => x.fst) (K P))
    (W:WalkO q loose XP (kHook K as e).says r d kwd run):WalkX q loose XP (X.obsZ as) (X.valZ K n t) r d kwd run :=
  fun w s₀ s₁ mg mb G y a o pm cd doc dV kV ho hd hcd hD hmg hg args vals as' L hpre hlay hrd hwl hlo =>
    W w s₀ s₁ mg mb G ((kHook K as e).keeps w s₀.heap s₁.heap ((kHook K as e).of w s₀ (congrArg Prod.fst y)) L.keeps) a o pm cd doc dV kV ho hd hcd hD hmg hg args vals as' hpre hlay hrd hwl hlo
end Lw
open PySem PySem.W PyProof.Rows
set_option maxRecDepth 100000 in
set_option maxHeartbeats 0 in
theorem PySem.Challenge.cw_tilefall_k52_no_wishes_holds : PySem.Challenge.rw_tilefall_k52_no_wishes.Holds := by
  w_on; o_law; z_head; (case hw => w_witness2)
  k_fill
  refine Lw.zwalk (fun _ => rfl) ?_
  refine Lw.walk (l := PySem.Challenge.rw_tilefall_k52_no_wishes) rfl rfl (fun w h Y => PySem.W.kIn_of Y) ?F
  case F =>
    intro w mg fa h KX G hmg
    refine' Lw.all_mk KX G hmg ?a0 ?l0 ?c0 ?k0 ?a1 ?l1 ?c1 ?k1 ?a2 ?l2 ?c2 ?k2 ?a3 ?l3 ?c3 ?k3 ?a4 ?l4 ?c4 ?k4 ?a5 ?l5 ?c5 ?k5 ?a6 ?l6 ?c6 ?k6 ?a7 ?l7 ?c7 ?k7 ?a8 ?l8 ?c8 ?k8 ?a9 ?l9 ?c9 ?k9 ?a10 ?l10 ?c10 ?k10 ?a11 ?l11 ?c11 ?k11 ?a12 ?l12 ?c12 ?k12 ?a13 ?l13 ?c13 ?k13 ?a14 ?l14 ?c14 ?k14 ?a15 ?l15 ?c15 ?k15 ?a16 ?l16 ?c16 ?k16 ?a17 ?l17 ?c17 ?k17 ?a18 ?l18 ?c18 ?k18 ?a19 ?l19 ?c19 ?k19 ?a20 ?l20 ?c20 ?k20 ?a21 ?l21 ?c21 ?k21 ?bT ?b0 ?b1 ?b5 ?b6 ?b11 ?zV ?ga_NoWish ?gt_NoWish ?ca_NoWish ?ob_NoWish ?be_NoWish ?ic_NoWish ?ve_NoWish ?tt_NoWish ?sa_NoWish ?na_NoWish ?sv_NoWish ?hd_NoWish ?mr_NoWish ?tg_NoWish ?tr_NoWish ?tf_NoWish ?fi_NoWish ?li_NoWish ?ci_NoWish ?ei_NoWish ?ni_NoWish ?k0_NoWish ?k1_NoWish ?k5_NoWish ?k6_NoWish ?k11_NoWish ?gl_LETTERS ?gl_MOST_LETTERS ?gl_MOST_PARTS  ?z_int ?z_bool ?z_str ?z_list ?z_tuple ?z_dict ?z_set ?z_range ?z_enumerate ?z_zip ?z_reversed ?z_len ?z_abs ?z_max ?z_min ?z_isinstance ?z_sorted ?z_all ?z_any ?z_sum
    (case a0 => k_is); (case l0 => k_is); (case c0 => k_is); (case k0 => k_is)
    (case a1 => k_is); (case l1 => k_is); (case c1 => k_is); (case k1 => k_is)
    (case a2 => k_is); (case l2 => k_is); (case c2 => k_is); (case k2 => k_is)
    (case a3 => k_is); (case l3 => k_is); (case c3 => k_is); (case k3 => k_is)
    (case a4 => k_is); (case l4 => k_is); (case c4 => k_is); (case k4 => k_is)
    (case a5 => k_is); (case l5 => k_is); (case c5 => k_is); (case k5 => k_is)
    (case a6 => k_is); (case l6 => k_is); (case c6 => k_is); (case k6 => k_is)
    (case a7 => k_is); (case l7 => k_is); (case c7 => k_is); (case k7 => k_is)
    (case a8 => k_is); (case l8 => k_is); (case c8 => k_is); (case k8 => k_is)
    (case a9 => k_is); (case l9 => k_is); (case c9 => k_is); (case k9 => k_is)
    (case a10 => k_is); (case l10 => k_is); (case c10 => k_is); (case k10 => k_is)
    (case a11 => k_is); (case l11 => k_is); (case c11 => k_is); (case k11 => k_is)
    (case a12 => k_is); (case l12 => k_is); (case c12 => k_is); (case k12 => k_is)
    (case a13 => k_is); (case l13 => k_is); (case c13 => k_is); (case k13 => k_is)
    (case a14 => k_is); (case l14 => k_is); (case c14 => k_is); (case k14 => k_is)
    (case a15 => k_is); (case l15 => k_is); (case c15 => k_is); (case k15 => k_is)
    (case a16 => k_is); (case l16 => k_is); (case c16 => k_is); (case k16 => k_is)
    (case a17 => k_is); (case l17 => k_is); (case c17 => k_is); (case k17 => k_is)
    (case a18 => k_is); (case l18 => k_is); (case c18 => k_is); (case k18 => k_is)
    (case a19 => k_is); (case l19 => k_is); (case c19 => k_is); (case k19 => k_is)
    (case a20 => k_is); (case l20 => k_is); (case c20 => k_is); (case k20 => k_is)
    (case a21 => k_is); (case l21 => k_is); (case c21 => k_is); (case k21 => k_is)
    (case bT => k_is)
    (case b0 => k_is)
    (case b1 => k_is)
    (case b5 => k_is)
    (case b6 => k_is)
    (case b11 => k_is)
    (case zV => k_is)
    (case ga_NoWish => k_is)
    (case gt_NoWish => k_is)
    (case ca_NoWish => k_is)
    (case ob_NoWish => k_is)
    (case be_NoWish => k_is)
    (case ic_NoWish => k_is)
    (case ve_NoWish => kit_is)
    (case tt_NoWish => kts_exm)
    (case sa_NoWish => k_is)
    (case na_NoWish => k_is)
    (case sv_NoWish => k_is)
    (case hd_NoWish => exact rfl)
    (case mr_NoWish => exact rfl)
    (case tg_NoWish => first | k_is | kernel_rfl)
    (case tr_NoWish => first | k_is | kernel_rfl)
    (case tf_NoWish => first | k_is | kernel_rfl)
    (case fi_NoWish => k_is)
    (case li_NoWish => k_is)
    (case ci_NoWish => k_is)
    (case ei_NoWish => first | k_exc | k_is | kernel_rfl)
    (case ni_NoWish => first | k_is | kernel_rfl)
    (case k0_NoWish => kit_is)
    (case k1_NoWish => kit_is)
    (case k5_NoWish => kit_is)
    (case k6_NoWish => kit_is)
    (case k11_NoWish => kit_is)
    (case gl_LETTERS => k_is)
    (case gl_MOST_LETTERS => k_is)
    (case gl_MOST_PARTS => k_is)
    (case z_int => k_is)
    (case z_bool => k_is)
    (case z_str => k_is)
    (case z_list => k_is)
    (case z_tuple => k_is)
    (case z_dict => k_is)
    (case z_set => k_is)
    (case z_range => k_is)
    (case z_enumerate => k_is)
    (case z_zip => k_is)
    (case z_reversed => k_is)
    (case z_len => k_is)
    (case z_abs => k_is)
    (case z_max => k_is)
    (case z_min => k_is)
    (case z_isinstance => k_is)
    (case z_sorted => k_is)
    (case z_all => k_is)
    (case z_any => k_is)
    (case z_sum => k_is)
#print axioms PySem.Challenge.cw_tilefall_k52_no_wishes_holds
