import PyProof.Rows.All
import Wide.All
import OpenK.AllK
import Wide.FinOn
import Lean
import PyProof.EqAt
import PyProof.EqKinds
import PyProof.TupleCall
import PyProof.NeKinds
import KE.KTryMore
import KE.RegKTryMore
import KE.RegKIsAll
import PyProof.ExcBaseAll.ValueError
import PyProof.ExcBaseAll.Exception
import PyProof.ExcAttrAll.ValueError
import PySem.Challenge.RW_tilefall_k72_no_rows
set_option Elab.async false
set_option linter.all false
set_option maxRecDepth 100000
def PySem.W.Fast.tw14985496768008103784:=0
def PySem.W.Fast.tw17016945123282582451:=0
def PySem.W.Fast.tw96048610654612192:=0
def PySem.W.Fast.tw4732298660168409986:=0
def PySem.W.Fast.tw17323202310739003223:=0
def PySem.W.Fast.tw4879185292614067075:=0
def PySem.W.Fast.tw14728625206067199047:=0
def PySem.W.Fast.tw3966448263974539349:=0
def PySem.W.Fast.tw17821659883383837035:=0
def PySem.W.Fast.tw6975025917229770474:=0
def PySem.W.Fast.tw13387632009524290473:=0
def PySem.W.Fast.tw15368373875391272892:=0
def PySem.W.Fast.tw14276264693220700740:=0
def PySem.W.Fast.tw14732292640398287314:=0
namespace L2
open PySem PySem.Spec PyProof.Rows
noncomputable abbrev Key:=Sum Int Str
noncomputable def aPp:Key->Value->Bool
 | .inl k,v=>Value.isInt k v
 | .inr x,v=>Value.isStrOf x v
noncomputable def aSz (w:World):Key->Int
 | .inl k=>hashInt k
 | .inr x=>hashStr w x
theorem aBz:∀ {k:Key} {v:Value},aPp k v=true->(∃ i t,k=Sum.inl i/\v=Value.int i t)∨(∃ x t,k=Sum.inr x/\v=Value.str x t)
 | .inl i,v,h=>by
  obtain ⟨t,e⟩:=Value.isInt_shape (k:=i) (v:=v) h
  exact .inl ⟨i,t,rfl,e⟩
 | .inr x,v,h=>by
  obtain ⟨t,e⟩:=Value.isStrOf_shape (x:=x) (v:=v) h
  exact .inr ⟨x,t,rfl,e⟩
theorem aRu (i:Int) (t:Tok):aPp (.inl i) (.int i t)=true:=by simp [aPp,Value.isInt]
theorem aC9 (x:Str) (t:Tok):aPp (.inr x) (.str x t)=true:=by simp [aPp,Value.isStrOf]
theorem bBn (a b:Int):decide ((Sum.inl a:Key)=Sum.inl b)=(a==b):=by
 by_cases e:a=b
 ·subst e; simp
 ·have h:¬ (Sum.inl a:Key)=Sum.inl b:=fun q=>e (Sum.inl.inj q)
  rw [decide_eq_false h]
  exact (beq_eq_false_iff_ne.mpr e).symm
theorem bBk (a b:Str):decide ((Sum.inr a:Key)=Sum.inr b)=decide (a=b):=by
 by_cases e:a=b
 ·subst e; simp
 ·have h:¬ (Sum.inr a:Key)=Sum.inr b:=fun q=>e (Sum.inr.inj q)
  rw [decide_eq_false h,decide_eq_false e]
theorem bBm (a:Int) (b:Str):decide ((Sum.inl a:Key)=Sum.inr b)=false:=decide_eq_false (fun q=>nomatch q)
theorem bBl (a:Str) (b:Int):decide ((Sum.inr a:Key)=Sum.inl b)=false:=decide_eq_false (fun q=>nomatch q)
noncomputable def aB5 (prog:Program) (w:World):PySem.KeyKind prog w Key where
 is:=aPp
 hash:=aSz w
 inj:=fun v a b ha hb=>by
  rcases aBz ha with ⟨i,t,rfl,rfl⟩ | ⟨x,t,rfl,rfl⟩
  ·rcases aBz hb with ⟨j,u,rfl,e⟩ | ⟨y,u,rfl,e⟩
   ·injection e with e1 _; rw [e1]
   ·exact nomatch e
  ·rcases aBz hb with ⟨j,u,rfl,e⟩ | ⟨y,u,rfl,e⟩
   ·exact nomatch e
   ·injection e with e1 _; rw [e1]
 byValue:=fun k v h=>by
  rcases aBz h with ⟨i,t,rfl,rfl⟩ | ⟨x,t,rfl,rfl⟩ <;> rfl
 pyHash:=fun hv h=>by
  rcases aBz hv with ⟨i,t,rfl,rfl⟩ | ⟨x,t,rfl,rfl⟩
  ·exact wpAny_pyHash_int h
  ·exact wpAny_pyHash_str h
 eqBool:=fun hu hv h=>by
  rcases aBz hu with ⟨i,t,rfl,rfl⟩ | ⟨x,t,rfl,rfl⟩
  ·rcases aBz hv with ⟨j,u,rfl,rfl⟩ | ⟨y,u,rfl,rfl⟩
   ·rw [bBn] at h; exact wpAny_eqBool_int h
   ·rw [bBm] at h; exact SeqAt.EqAt.int_str i t y u _ _ _ _ h
  ·rcases aBz hv with ⟨j,u,rfl,rfl⟩ | ⟨y,u,rfl,rfl⟩
   ·rw [bBl] at h; exact SeqAt.EqAt.str_int x t j u _ _ _ _ h
   ·rw [bBk] at h; exact wpAny_eqBool_str h
 «strs»:=fun k x t v h=>by
  rcases aBz h with ⟨i,u,rfl,e⟩ | ⟨y,u,rfl,e⟩
  ·exact nomatch e
  ·injection e with e1 _
   subst e1
   cases v <;> rfl
theorem aM8 (prog:Program) (w:World) (i:Int) (t:Tok):(aB5 prog w).is (.inl i) (.int i t)=true:=aRu i t
theorem aM7 (prog:Program) (w:World) (x:Str) (t:Tok):(aB5 prog w).is (.inr x) (.str x t)=true:=aC9 x t
end L2
namespace L2
open PySem PySem.Spec PyProof.Rows
inductive V where
 | non | bl (b:Bool) | int (i:Int) | str (x:Str) | byt (b:Array UInt8) | flt (b:UInt64) | ref (a:Addr) | ty (n:String)
 deriving DecidableEq
noncomputable def aB6:V->Value->Prop
 | .non,u=>u=Value.none
 | .bl b,u=>u=Value.bool b
 | .int i,u=>∃ t,u=Value.int i t
 | .str x,u=>∃ t,u=Value.str x t
 | .byt b,u=>∃ t,u=Value.bytes b t
 | .flt b,u=>∃ t,u=Value.float b t
 | .ref a,u=>u=Value.ref a
 | .ty n,u=>u=Value.type n
noncomputable abbrev aB0:List V->List Value->Prop:=Paired aB6
theorem aB0.length {xs:List V} {us:List Value} (r:aB0 xs us):xs.length=us.length:=Paired.length r
theorem aB0.get:∀ {xs:List V} {us:List Value} {i:Nat} {x:V},aB0 xs us->xs[i]?=some x->∃ u,us[i]?=some u/\aB6 x u
 | _,_,_,_,.nil,e=>by simp at e
 | _,_,0,_,.cons r _,e=>by simp at e; subst e; exact ⟨_,rfl,r⟩
 | _,_,i+1,x,.cons _ t,e=>by
  obtain ⟨u,h1,h2⟩:=aB0.get (i:=i) (x:=x) t (by simpa using e)
  exact ⟨u,by simpa using h1,h2⟩
theorem aB0.set {x:V} {u:Value} (r:aB6 x u):∀ {xs:List V} {us:List Value} (i:Nat),aB0 xs us->aB0 (xs.set i x) (us.set i u)
 | _,_,_,.nil=>.nil
 | _,_,0,.cons _ t=>.cons r t
 | _,_,i+1,.cons q t=>.cons q (aB0.set r i t)
theorem aB0.append:∀ {xs ys:List V} {us ws:List Value},aB0 xs us->aB0 ys ws->aB0 (xs++ys) (us++ws)
 | _,_,_,_,.nil,s=>s
 | _,_,_,_,.cons r t,s=>.cons r (aB0.append t s)
theorem aB0.take:∀ {xs:List V} {us:List Value} (n:Nat),aB0 xs us->aB0 (xs.take n) (us.take n)
 | _,_,0,_=>.nil
 | _,_,_+1,.nil=>.nil
 | _,_,n+1,.cons r t=>.cons r (aB0.take n t)
theorem aB0.drop:∀ {xs:List V} {us:List Value} (n:Nat),aB0 xs us->aB0 (xs.drop n) (us.drop n)
 | _,_,0,r=>r
 | _,_,_+1,.nil=>.nil
 | _,_,n+1,.cons _ t=>aB0.drop n t
noncomputable def aO4:Option V->Option Value->Prop
 | some v,some u=>aB6 v u
 | none,none=>True
 | _,_=>False
noncomputable def KV {κ:Type}:List (κ×V)->List (κ×Value)->Prop:=Paired fun (p:κ×V) (q:κ×Value)=>p.1=q.1/\aB6 p.2 q.2
noncomputable def kV:Key->V
 | .inl i=>.int i
 | .inr x=>.str x
inductive HO where
  | lst (xs:List V)
  | tup (xs:List V)
  | dK (kvs:List (Key×V)) | dT (kvs:List (List Key×V))
  | set (S:Int->Bool) (n:Nat)
  | ins (C dx:Addr) (fs:List (Str×V))
  | own (x:Addr)
  | xd (fs:List (Str×V))
  | met (f x:Addr)
  | rng (lo hi:Int)
  | frz (o:Obj) (u:HO)
  | tbl (ps:Array Value)
  | ext (φ:Heap->Prop)
noncomputable abbrev Hp:=Addr->Option HO
noncomputable def upd (H:Hp) (a:Addr) (o:HO):Hp:=fun b=>if b=a then some o else H b
theorem aAd {H:Hp} {a:Addr} {o:HO}:upd H a o a=some o:=by unfold upd; rw [if_pos rfl]
theorem aBg {H:Hp} {a b:Addr} {o:HO} (h:b≠a):upd H a o b=H b:=by unfold upd; rw [if_neg h]
theorem aW7 {H:Hp} {a b:Addr} {o u:HO} (h:H a=some o) (h':H b=some u) (d:o≠u):a≠b:=by
 intro e; subst e; rw [h] at h'; exact d (Option.some.inj h')
theorem aAg {H:Hp} {a b:Addr} {o:HO} (h:H a=some o) (h':H b=none):a≠b:=by
 intro e; subst e; rw [h] at h'; cases h'
section
variable (P:Program) (w:World)
noncomputable def aCd (H:Hp) (h:Heap) (a:Addr):HO->Prop
 | .lst xs=>xs.length<=sizeLine/\∃ (its:List Value) (n:Nat),aB0 xs its/\h.get? a=some { cls:=.type "list",data:=.seq its.toArray n }
 | .tup xs=>(xs.length<=sizeLine/\∃ o,h.get? a=some o/\o.dict=none)/\∃ its:List Value,aB0 xs its/\IsTup h a its.toArray
 | .dK kvs=>kvs.length<=sizeLine/\(a==sysModules)=false/\∃ vs,KV kvs vs/\h.DictOf (aB5 P w) a vs
 | .dT kvs=>kvs.length<=sizeLine/\(a==sysModules)=false/\∃ xs:List (List Key×Addr×Value),
   Paired (fun (p:List Key×V) (q:List Key×Addr×Value)=>p.1=q.1/\H q.2.1=some (.tup (p.1.map kV))/\aB6 p.2 q.2.2) kvs xs /\
   ∃ o es ep,h.get? a=some o/\o.ExactDict/\o.data=.dict es ep/\es.toList=xs.map (entryOfKey (tupleKind (aB5 P w)))/\(xs.map (·.1)).Nodup
 | .set S n=>h.SetOf (intKind P w) a S n
 | .ins C dx fs=>H dx=some (.own a)/\fs.length<=1000/\dx≠a/\h.get? a=some (PySem.W.instObj C dx) /\
   ∃ mA,h.Ns1 dx mA/\(∀ f,aO4 (fs.lookup f) (mA f))/\PySem.Within mA (fs.map (·.1))
 | .own _=>∃ o,h.get? a=some o
 | .xd fs=>∃ mA,h.Ns1 a mA/\∀ f,aO4 (fs.lookup f) (mA f)
 | .rng lo hi=>∃ t u v,h.get? a=some { cls:=.type "range",data:=.fields #[.int lo t,.int hi u,.int 1 v] }
 | .frz o u=>h.get? a=some o/\aCd H h a u
 | .tbl ps=>h.get? a=some { cls:=.none,data:=.fields ps }
 | .met f x=>h.get? a=some (PySem.W.methodObj (.ref f) (.ref x))
 | .ext φ=>φ h/\(∃ o,h.get? a=some o)/\∀ h1 h2:Heap,φ h1->(∀ o,h1.get? a=some o->h2.get? a=some o)->φ h2
noncomputable def HOk (H:Hp) (h:Heap):Prop:=∀ a o,H a=some o->aCd P w H h a o
end
section
variable {P:Program} {w:World} {H H':Hp} {h h':Heap} {a:Addr} {o:HO}
theorem aCd.lt (x:aCd P w H h a o):a < h.objs.size:=by
 cases o with
 | lst xs=>obtain ⟨_,_,_,_,e⟩:=x; exact Heap.lt_size e
 | tup xs=>obtain ⟨_,_,_,p⟩:=x; exact p.lt
 | dK kvs=>obtain ⟨_,_,_,_,o,_,_,e,_⟩:=x; exact Heap.lt_size e
 | dT kvs=>obtain ⟨_,_,_,_,o,_,_,e,_⟩:=x; exact Heap.lt_size e
 | set S n=>obtain ⟨o,_,_,_,e,_⟩:=x; exact Heap.lt_size e
 | ins C dx fs=>obtain ⟨_,_,_,e,_⟩:=x; exact Heap.lt_size e
 | own y=>obtain ⟨_,e⟩:=x; exact Heap.lt_size e
 | xd fs=>obtain ⟨_,⟨_,_,_,e,_⟩,_⟩:=x; exact Heap.lt_size e
 | rng lo hi=>obtain ⟨_,_,_,e⟩:=x; exact Heap.lt_size e
 | frz ob u=>obtain ⟨e,_⟩:=x; exact Heap.lt_size e
 | tbl ps=>exact Heap.lt_size (show h.get? a=some _ from x)
 | met f y=>exact Heap.lt_size (show h.get? a=some _ from x)
 | ext φ=>obtain ⟨_,⟨_,e⟩,_⟩:=x; exact Heap.lt_size e
theorem Paired.mapP {α β:Type} {F G:α->β->Prop}:∀ {l₁:List α} {l₂:List β},Paired F l₁ l₂->(∀ a b,F a b->G a b)->Paired G l₁ l₂
 | _,_,.nil,_=>.nil
 | _,_,.cons r t,f=>.cons (f _ _ r) (Paired.mapP t f)
theorem aCd.stay (x:aCd P w H h a o) (k:∀ b u,(b=a∨H b=some (.own a))->h.get? b=some u->h'.get? b=some u)
  (ho:∀ b,H b=some (.own a)->H' b=some (.own a)) (ht:∀ b xs,H b=some (.tup xs)->H' b=some (.tup xs)):aCd P w H' h' a o:=by
 induction o with
 | lst xs=>obtain ⟨z,its,n,r,e⟩:=x; exact ⟨z,its,n,r,k _ _ (.inl rfl) e⟩
 | tup xs=>obtain ⟨⟨z,o1,e1,d1⟩,its,r,ob,e,c⟩:=x; exact ⟨⟨z,o1,k _ _ (.inl rfl) e1,d1⟩,its,r,ob,k _ _ (.inl rfl) e,c⟩
 | dK kvs=>obtain ⟨z,y,vs,r,ob,es,ep,e,c⟩:=x; exact ⟨z,y,vs,r,ob,es,ep,k _ _ (.inl rfl) e,c⟩
 | dT kvs =>
  obtain ⟨z,y,xs,r,ob,es,ep,e,c⟩:=x
  exact ⟨z,y,xs,Paired.mapP r fun p q z=>⟨z.1,ht _ _ z.2.1,z.2.2⟩,ob,es,ep,k _ _ (.inl rfl) e,c⟩
 | set S n=>obtain ⟨ob,es,ep,t,e,c⟩:=x; exact ⟨ob,es,ep,t,k _ _ (.inl rfl) e,c⟩
 | ins C dx fs =>
  obtain ⟨d,z,ne,e,mA,⟨od,es,ep,e2,c⟩,r⟩:=x
  exact ⟨ho _ d,z,ne,k _ _ (.inl rfl) e,mA,⟨od,es,ep,k _ _ (.inr d) e2,c⟩,r⟩
 | own y=>obtain ⟨ob,e⟩:=x; exact ⟨ob,k _ _ (.inl rfl) e⟩
 | xd fs=>obtain ⟨mA,⟨od,es,ep,e,c⟩,r⟩:=x; exact ⟨mA,⟨od,es,ep,k _ _ (.inl rfl) e,c⟩,r⟩
 | rng lo hi=>obtain ⟨t,u,v,e⟩:=x; exact ⟨t,u,v,k _ _ (.inl rfl) e⟩
 | frz ob u ih=>obtain ⟨e,q⟩:=x; exact ⟨k _ _ (.inl rfl) e,ih q⟩
 | tbl ps =>
  have e:h.get? a=some { cls:=.none,data:=.fields ps }:=x
  show h'.get? a=some { cls:=.none,data:=.fields ps }
  exact k a _ (.inl rfl) e
 | met f y =>
  have e:h.get? a=some (PySem.W.methodObj (.ref f) (.ref y)):=x
  show h'.get? a=some (PySem.W.methodObj (.ref f) (.ref y))
  exact k a _ (.inl rfl) e
 | ext φ=>obtain ⟨p,⟨o,e⟩,st⟩:=x; exact ⟨st _ _ p fun o q=>k _ _ (.inl rfl) q,⟨o,k _ _ (.inl rfl) e⟩,st⟩
theorem HOk.lt (x:HOk P w H h) (e:H a=some o):a < h.objs.size:=(x a o e).lt
theorem HOk.fresh (x:HOk P w H h) (e:h.objs.size<=a):H a=none:=by
 cases q:H a with
 | none=>rfl
 | some u=>exact absurd (Nat.lt_of_lt_of_le (x.lt q) e) (Nat.lt_irrefl _)
theorem HOk.kept (x:HOk P w H h) (k:∀ b u,h.get? b=some u->h'.get? b=some u):HOk P w H h':=fun a o e =>
 (x a o e).stay (fun b u _ q=>k b u q) (fun _ q=>q) fun _ _ q=>q
theorem HOk.laid (x:HOk P w H h) (k:∀ b u,h.get? b=some u->h'.get? b=some u) (hp:h.objs.size<=a) (new:aCd P w (upd H a o) h' a o):HOk P w (upd H a o) h':=fun b u e=>by
 have hn:=x.fresh hp
 by_cases hb:b=a
 ·subst hb; rw [aAd] at e; cases e; exact new
 ·rw [aBg hb] at e
  exact (x b u e).stay (fun c v _ q=>k c v q) (fun c q=>by rw [aBg (aAg q hn)]; exact q) fun c xs q=>by rw [aBg (aAg q hn)]; exact q
end
noncomputable def Rd (H:Hp) (a:Addr) (u:HO):Prop:=H a=some u∨∃ o,H a=some (.frz o u)
theorem Rd.ok {P:Program} {w:World} {H:Hp} {h:Heap} {a:Addr} {u:HO} (r:Rd H a u) (x:HOk P w H h):aCd P w H h a u:=by
 rcases r with r | ⟨o,r⟩
 ·exact x a u r
 ·obtain ⟨_,q⟩:=x a _ r
  exact q
noncomputable def Mut:Option HO->Prop
 | some (.lst _)=>True
 | some (.dK _)=>True
 | some (.dT _)=>True
 | some (.set _ _)=>True
 | some (.ins _ _ _)=>True
 | some (.ext _)=>True
 | _=>False
section
variable {P:Program} {w:World} {H:Hp} {h h':Heap} {x e:Addr} {o':HO}
theorem HOk.write (ok:HOk P w H h) (mu:Mut (H x)) (he:e=x∨H e=some (.own x)) (k:∀ b u,b≠e->h.get? b=some u->h'.get? b=some u) (heo:∃ u,h'.get? e=some u)
  (new:aCd P w (upd H x o') h' x o'):HOk P w (upd H x o') h':=fun b u q=>by
 have nown:∀ c y,H c=some (.own y)->c≠x:=fun c y r z=>by subst z; rw [r] at mu; exact mu
 have ntup:∀ c xs,H c=some (.tup xs)->c≠x:=fun c xs r z=>by subst z; rw [r] at mu; exact mu
 by_cases hb:b=x
 ·subst hb; rw [aAd] at q; cases q; exact new
 ·rw [aBg hb] at q
  by_cases hbe:b=e
  ·have q':H b=some (.own x):=by
    rcases he with z | z
    ·exact absurd (hbe.trans z) hb
    ·rw [hbe]; exact z
   rw [q] at q'; cases q'
   obtain ⟨v,hv⟩:=heo
   exact ⟨v,by rw [hbe]; exact hv⟩
  ·refine (ok b u q).stay (fun c v hc r=>k c v ?_ r) (fun c r=>by rw [aBg (nown c b r)]; exact r) fun c xs r=>by rw [aBg (ntup c xs r)]; exact r
   rcases hc with rfl | hc
   ·exact hbe
   ·rintro rfl
    rcases he with z | z
    ·exact nown c b hc z
    ·rw [hc] at z; cases z; exact hb rfl
end
structure Un (fs ex:List Addr) (H H':Hp) (h h':Heap):Prop where
 keep:∀ b o,h.get? b=some o->H b=none->b∉fs->b∉ex->h'.get? b=some o
 slot:∀ b o,h.get? b=some o->H b=none->b∈fs->b∉ex->∃ sl,h'.get? b=some { o with slots:=sl }
 free:∀ b o,h.get? b=some o->H b=none->b∉ex->H' b=none
 there:∀ b o,h.get? b=some o->b∉ex->∃ o',h'.get? b=some o'
 tups:∀ b xs,H b=some (.tup xs)->H' b=some (.tup xs)
 frzs:∀ b o u,H b=some (.frz o u)->H' b=some (.frz o u)
 tbls:∀ b ps,H b=some (.tbl ps)->∃ more,H' b=some (.tbl (ps++more))
section
variable {fs fs' ex ex':List Addr} {H H1 H2:Hp} {h h1 h2 h':Heap} {a x e:Addr} {o:HO}
theorem Un.any (u:Un fs ex H H1 h h1) {b:Addr} {ob:Obj} (q:h.get? b=some ob) (n:H b=none) (hx:b∉ex):∃ sl,h1.get? b=some { ob with slots:=sl }:=by
 by_cases hb:b∈fs
 ·exact u.slot b ob q n hb hx
 ·exact ⟨ob.slots,u.keep b ob q n hb hx⟩
theorem Un.trans (a:Un fs ex H H1 h h1) (b:Un fs ex H1 H2 h1 h2):Un fs ex H H2 h h2 where
 keep:=fun c ob q n hc hx=>b.keep c ob (a.keep c ob q n hc hx) (a.free c ob q n hx) hc hx
 slot:=fun c ob q n hc hx=>by
  obtain ⟨sl,e1⟩:=a.slot c ob q n hc hx
  obtain ⟨sl',e2⟩:=b.slot c _ e1 (a.free c ob q n hx) hc hx
  exact ⟨sl',e2⟩
 free:=fun c ob q n hx=>by
  obtain ⟨o',e1⟩:=a.there c ob q hx
  exact b.free c o' e1 (a.free c ob q n hx) hx
 there:=fun c ob q hx=>by
  obtain ⟨o',e1⟩:=a.there c ob q hx
  exact b.there c o' e1 hx
 tups:=fun c xs q=>b.tups c xs (a.tups c xs q)
 frzs:=fun c ob xs q=>b.frzs c ob xs (a.frzs c ob xs q)
 tbls:=fun c ps q=>by
  obtain ⟨m1,e1⟩:=a.tbls c ps q
  obtain ⟨m2,e2⟩:=b.tbls c _ e1
  exact ⟨m1++m2,by rw [e2,Array.append_assoc]⟩
theorem Un.kept (k:∀ b u,h.get? b=some u->h'.get? b=some u):Un fs ex H H h h' :=
 ⟨fun b ob q _ _ _=>k b ob q,fun b ob q _ _ _=>⟨ob.slots,k b ob q⟩,fun _ _ _ n _=>n,fun b ob q _=>⟨ob,k b ob q⟩,fun _ _ q=>q,fun _ _ _ q=>q,fun _ ps q=>⟨#[],by rw [q]; simp⟩⟩
theorem Un.refl:Un fs ex H H h h:=Un.kept fun _ _ q=>q
theorem Un.laid (k:∀ b u,h.get? b=some u->h'.get? b=some u) (hp:h.objs.size<=a) (hn:H a=none):Un fs ex H (upd H a o) h h' where
 keep:=fun b u q _ _ _=>k b u q
 slot:=fun b u q _ _ _=>⟨u.slots,k b u q⟩
 free:=fun b u q n _=>by rw [aBg (Nat.ne_of_lt (Nat.lt_of_lt_of_le (Heap.lt_size q) hp))]; exact n
 there:=fun b u q _=>⟨u,k b u q⟩
 tups:=fun b xs q=>by rw [aBg (aAg q hn)]; exact q
 frzs:=fun b u xs q=>by rw [aBg (aAg q hn)]; exact q
 tbls:=fun b ps q=>⟨#[],by rw [aBg (aAg q hn),q]; simp⟩
theorem Un.write (mu:Mut (H x)) (he:e=x∨H e=some (.own x)) (k:∀ b u,b≠e->h.get? b=some u->h'.get? b=some u) (heo:∃ u,h'.get? e=some u):Un fs ex H (upd H x o) h h':=by
 have hx:∀ b,H b=none->b≠x:=fun b n z=>by subst z; rw [n] at mu; exact mu
 have hb:∀ b,H b=none->b≠e:=fun b n z=>by
  subst z
  rcases he with r | r
  ·exact hx b n r
  ·rw [n] at r; cases r
 have hm:∀ b u,H b=some u->¬ Mut (some u)->b≠x:=fun b u q nm z=>by subst z; rw [q] at mu; exact nm mu
 refine ⟨fun b u q n _ _=>k b u (hb b n) q,fun b u q n _ _=>⟨u.slots,k b u (hb b n) q⟩,fun b u q n _=>by rw [aBg (hx b n)]; exact n,fun b u q _=>?_,
  fun b xs q=>by rw [aBg (hm b _ q fun z=>z)]; exact q,fun b u xs q=>by rw [aBg (hm b _ q fun z=>z)]; exact q,fun b ps q=>⟨#[],by rw [aBg (hm b _ q fun z=>z),q]; simp⟩⟩
 by_cases hbe:b=e
 ·subst hbe; exact heo
 ·exact ⟨u,k b u hbe q⟩
end
noncomputable def trk (h:Heap) (H:Hp):List Addr:=(List.range h.objs.size).filter fun a=>(H a).isSome
noncomputable def aT8 (h:Heap) (H:Hp):Heap:=PySem.W.hideAll h (trk h H)
theorem aR0 (h:Heap) (H:Hp):(aT8 h H).objs.size=h.objs.size:=PySem.W.hideAll_size _ _
theorem aT7 {h:Heap} {H:Hp} {b:Addr} {o:Obj} (e:h.get? b=some o) (n:H b=none):(aT8 h H).get? b=some o :=
 PySem.W.hideAll_get _ e fun hm=>by
  have q:(H b).isSome=true:=(List.mem_filter.mp hm).2
  rw [n] at q; simp at q
theorem aW4 {h:Heap} {H:Hp} {b:Addr} {o:Obj} (e:(aT8 h H).get? b=some o):h.get? b=some o/\H b=none:=by
 have e':h.get? b=some o:=PySem.W.of_hideAll (trk h H) e
 refine ⟨e',?_⟩
 cases q:H b with
 | none=>rfl
 | some x =>
  have hm:b∈trk h H:=List.mem_filter.mpr ⟨List.mem_range.mpr (Heap.lt_size e'),by simp [q]⟩
  have z:(aT8 h H).get? b=none:=PySem.W.hideAll_none (trk h H) hm
  rw [z] at e; cases e
noncomputable def aXx (g h:Heap) (L:Addr):List (Addr×Obj):=(List.range h.objs.size).filterMap fun a=>if a=L∨(g.get? a).isSome=true then none else (h.get? a).map fun o=>(a,o)
noncomputable def aDj (g h:Heap) (L d:Addr):List (Addr×Obj):=(aXx g h L).filter fun p=>decide (p.1≠d)
end L2
namespace L2
open PySem PySem.Spec PyProof.Rows
structure Mod (K:PySem.W.Frag) (mg:Str->Option Value) (base:Heap):Prop where
 kin:K.In base
 glob:base.Ns mainGlobals mg
 blt:∃ mb,base.Ns builtinsNs mb/\∀ x:Str,x≠"__name__"->mb x=bootBuiltins x
 nolimit:base.NoLimit
set_option genInjectivity false in
set_option genSizeOfSpec false in
structure Cx where
 prog:Program
 w:World
 K:PySem.W.Frag
 mg:Str->Option Value
 base:Heap
 A:Around
 N:List Str
 s₀:Shared
 H₀:Hp
 env:Env
 outer:List Env
 stack:List Env
 ex:List Addr
 fn:Str->Bool
 calm:Bool
 pn:List (Addr×Obj)
 xe:Value->Shared->Prop
noncomputable def frs (l:List Env):List Addr:=l.filterMap (·.frame)
noncomputable abbrev Cx.fs (X:Cx):List Addr:=frs X.outer
noncomputable def Vis (sc:Scope) (x:Str):Prop:=sc.names.lookup x=some .local∨sc.names.lookup x=some .cell∨sc.names.lookup x=some .free
noncomputable def Loc (sc:Scope) (x:Str):Prop:=sc.names.lookup x=some .local∨sc.names.lookup x=some .cell
noncomputable def Look (env:Env) (h:Heap) (m:Str->Option Value) (x:Str) (u:Value):Prop :=
 (env.kindOf x=some .local/\m x=some u)∨((env.kindOf x=some .cell∨env.kindOf x=some .free)/\∃ c,env.cells.lookup x=some c/\h.IsCell c (some u))
structure Cx.Ok (X:Cx):Prop where
 mod:Mod X.K X.mg X.base
 kind:X.env.scope.kind=.function
 glob:X.env.globals=mainGlobals
 blt:X.env.builtins=builtinsNs
 above:X.s₀.heap.objs.size<=X.env.locals
 inj:∀ x y c,X.env.cells.lookup x=some c->X.env.cells.lookup y=some c->x=y
 has:∀ x,(X.env.kindOf x=some .cell∨X.env.kindOf x=some .free)->∃ c,X.env.cells.lookup x=some c
 cab:∀ x c,X.fn x=true->X.env.cells.lookup x=some c->X.s₀.heap.objs.size<=c
 hd:X.calm=true->X.A.handled=none
 frames:X.A.frames=some X.stack
 stk:X.stack=X.outer∨(X.stack=X.env::X.outer/\X.env.frame=some X.env.locals)
 exf:∀ b∈X.ex,b≠X.env.locals/\∀ x c,X.env.cells.lookup x=some c->c≠b
 bs:∀ b o,X.base.get? b=some o->X.s₀.heap.get? b=some o/\X.H₀ b=none
 bsz:X.base.objs.size<=X.s₀.heap.objs.size
 noex:∀ b o,X.base.get? b=some o->b∉X.ex
 exfs:∀ b∈X.ex,b∉X.fs
 funs:X.s₀.heap.FunFrames X.base X.outer
 frf:∀ b∈X.fs,X.H₀ b=none
structure Inv (X:Cx) (pins:List (Addr×Obj)) (σ:List (Option V)) (H:Hp) (s:Shared):Prop where
 ok:X.Ok
 os:s.os=X.s₀.os
 bare:AllBare s.gens
 base:Un X.fs X.ex X.H₀ H X.s₀.heap s.heap
 loc:∃ m,s.heap.Ns X.env.locals m/\∀ (i:Nat) (x:Str) (v:V),X.N[i]?=some x->σ[i]?=some (some v)->Vis X.env.scope x->∃ u,aB6 v u/\Look X.env s.heap m x u
 cell:∀ x c,X.env.cells.lookup x=some c->∃ v,s.heap.IsCell c v
 free:H X.env.locals=none
 freeC:∀ x c,X.env.cells.lookup x=some c->H c=none
 pin:∀ p∈X.pn++pins,s.heap.get? p.1=some p.2/\H p.1=none/\p.1≠X.env.locals/\p.1∉X.fs/\∀ v,p.2.data≠.cell v
 hok:HOk X.prog X.w H s.heap
 len:σ.length=X.N.length
section
variable {X:Cx} {pins:List (Addr×Obj)} {σ:List (Option V)} {H H':Hp} {s:Shared} {h':Heap}
theorem Cx.Ok.nofr (ok:X.Ok) {b:Addr} {o:Obj} (e:X.base.get? b=some o):b∉X.fs:=fun hb=>by
 have:=(ok.funs.mem hb).1
 rw [e] at this; cases this
theorem Inv.bs (I:Inv X pins σ H s):∀ b o,X.base.get? b=some o->s.heap.get? b=some o/\H b=none:=fun b o e =>
 ⟨I.base.keep b o (I.ok.bs b o e).1 (I.ok.bs b o e).2 (I.ok.nofr e) (I.ok.noex b o e),I.base.free b o (I.ok.bs b o e).1 (I.ok.bs b o e).2 (I.ok.noex b o e)⟩
theorem Inv.bk (I:Inv X pins σ H s):∀ b o,X.base.get? b=some o->s.heap.get? b=some o:=fun b o e=>(I.bs b o e).1
theorem Inv.mod (I:Inv X pins σ H s):Mod X.K X.mg X.base:=I.ok.mod
theorem Inv.kIn (I:Inv X pins σ H s):X.K.In s.heap:=I.ok.mod.kin.keeps I.bk
theorem Inv.lt (I:Inv X pins σ H s):X.env.locals < s.heap.objs.size:=let ⟨_,hn,_⟩:=I.loc; hn.lt
theorem Inv.sz (I:Inv X pins σ H s):X.s₀.heap.objs.size<=s.heap.objs.size:=Nat.le_trans I.ok.above (Nat.le_of_lt I.lt)
theorem Inv.nofs (I:Inv X pins σ H s) {a:Addr} (h:s.heap.objs.size<=a):a∉X.fs:=fun hb=>by
 obtain ⟨_,o,ho,_⟩:=I.ok.funs.mem hb
 exact absurd (Nat.lt_of_lt_of_le (Heap.lt_size ho) (Nat.le_trans I.sz h)) (Nat.lt_irrefl _)
theorem Inv.cne (I:Inv X pins σ H s):∀ x c,X.env.cells.lookup x=some c->c≠X.env.locals:=fun x c e z=>by
 obtain ⟨v,o,ho,hd⟩:=I.cell x c e
 obtain ⟨m,⟨o',es,ep,ho',hd',_⟩,_⟩:=I.loc
 rw [z,ho'] at ho; cases ho; rw [hd'] at hd; cases hd
theorem Inv.funs (I:Inv X pins σ H s):s.heap.FunFrames X.base X.outer:=by
 have all:∀ (l:List Env),(∀ b∈frs l,b∈X.fs)->X.s₀.heap.FunFrames X.base l->s.heap.FunFrames X.base l:=by
  intro l
  induction l with
  | nil=>intro _ _; trivial
  | cons env r ih =>
   intro hs hl
   obtain ⟨hk,⟨L,o,hf,hn,ho,hd⟩,hr⟩:=hl
   have hL:L∈X.fs:=hs L (by unfold frs; rw [List.filterMap_cons,hf]; exact List.mem_cons_self)
   obtain ⟨sl,e⟩:=I.base.slot L o ho (I.ok.frf L hL) hL fun z=>I.ok.exfs L z hL
   exact ⟨hk,⟨L,_,hf,hn,e,hd⟩,ih (fun b hb=>hs b (by unfold frs; rw [List.filterMap_cons,hf]; exact List.mem_cons_of_mem _ hb)) hr⟩
 exact all X.outer (fun _ hb=>hb) I.ok.funs
theorem Inv.stack (I:Inv X pins σ H s):s.heap.FunFrames X.base X.stack:=by
 rcases I.ok.stk with e | ⟨e,hf⟩
 ·rw [e]; exact I.funs
 ·rw [e]
  obtain ⟨m,hn,_⟩:=I.loc
  refine .cons (by rw [I.ok.kind]; decide) hf hn ?_ I.funs
  exact Heap.get?_none_of_le (Nat.le_trans I.ok.bsz I.ok.above)
theorem Inv.stkSub (I:Inv X pins σ H s):∀ b∈frs X.stack,b∈X.env.locals::X.fs:=fun b hb=>by
 rcases I.ok.stk with e | ⟨e,hf⟩
 ·rw [e] at hb; exact List.mem_cons_of_mem _ hb
 ·rw [e] at hb
  unfold frs at hb
  rw [List.filterMap_cons,hf] at hb
  exact hb
theorem Inv.stkFree (I:Inv X pins σ H s):∀ b∈frs X.stack,H b=none:=fun b hb=>by
 rcases List.mem_cons.mp (I.stkSub b hb) with e | hb
 ·rw [e]; exact I.free
 ·obtain ⟨_,o,ho,_⟩:=I.ok.funs.mem hb
  exact I.base.free b o ho (I.ok.frf b hb) fun z=>I.ok.exfs b z hb
theorem Inv.step {g':Array GenState} {t':Nat} {d':Drawn} {ch:List Addr} (I:Inv X pins σ H s)
  (hch:∀ b∈ch,(b∈X.ex∨X.s₀.heap.objs.size<=b)/\b≠X.env.locals/\(∀ x c,X.env.cells.lookup x=some c->c≠b)/\∀ p∈X.pn++pins,p.1≠b)
  (keep:∀ b o,b≠X.env.locals->b∉X.fs->b∉ch->s.heap.get? b=some o->H b=none->h'.get? b=some o)
  (slot:∀ b o,b≠X.env.locals->b∈X.fs->b∉ch->s.heap.get? b=some o->H b=none->∃ sl,h'.get? b=some { o with slots:=sl }) (free:∀ b o,b∉ch->s.heap.get? b=some o->H b=none->H' b=none)
  (there:∀ b o,b∉ch->s.heap.get? b=some o->∃ o',h'.get? b=some o')
  (tups:∀ b xs,H b=some (.tup xs)->H' b=some (.tup xs)) (frzs:∀ b o u,H b=some (.frz o u)->H' b=some (.frz o u)) (tbls:∀ b ps,H b=some (.tbl ps)->∃ more,H' b=some (.tbl (ps++more)))
  (ns:∀ m,s.heap.Ns X.env.locals m->h'.Ns X.env.locals m) (hok:HOk X.prog X.w H' h') (hg:AllBare g') :
  Inv X pins σ H' { s with heap:=h',gens:=g',drawn:=d',toks:=t' }:=by
 have neL:∀ b o,X.s₀.heap.get? b=some o->b≠X.env.locals:=fun b o e=>Nat.ne_of_lt (Nat.lt_of_lt_of_le (Heap.lt_size e) I.ok.above)
 have neC:∀ b o,X.s₀.heap.get? b=some o->b∉X.ex->b∉ch:=fun b o e hx hb=>by
  rcases (hch b hb).1 with z | z
  ·exact hx z
  ·exact absurd (Nat.lt_of_lt_of_le (Heap.lt_size e) z) (Nat.lt_irrefl _)
 have cellK:∀ x c,X.env.cells.lookup x=some c->∀ v,s.heap.IsCell c v->h'.IsCell c v:=fun x c e v ⟨o,ho,hd⟩=>by
  have nch:c∉ch:=fun z=>(hch c z).2.2.1 x c e rfl
  by_cases hc:c∈X.fs
  ·obtain ⟨sl,q⟩:=slot c o (I.cne x c e) hc nch ho (I.freeC x c e)
   exact ⟨_,q,hd⟩
  ·exact ⟨o,keep c o (I.cne x c e) hc nch ho (I.freeC x c e),hd⟩
 refine ⟨I.ok,I.os,hg,⟨fun b o e n hb hx=>?_,fun b o e n hb hx=>?_,fun b o e n hx=>?_,fun b o e hx=>?_,fun b xs e=>tups b xs (I.base.tups b xs e),fun b o xs e=>frzs b o xs (I.base.frzs b o xs e),fun b ps e=>?_⟩,?_,fun x c e=>?_,?_,fun x c e=>?_,fun p hp=>?_,hok,I.len⟩
 ·exact keep b o (neL b o e) hb (neC b o e hx) (I.base.keep b o e n hb hx) (I.base.free b o e n hx)
 ·obtain ⟨sl,e1⟩:=I.base.slot b o e n hb hx
  obtain ⟨sl',e2⟩:=slot b _ (neL b o e) hb (neC b o e hx) e1 (I.base.free b o e n hx)
  exact ⟨sl',e2⟩
 ·obtain ⟨o',e1⟩:=I.base.there b o e hx
  exact free b o' (neC b o e hx) e1 (I.base.free b o e n hx)
 ·obtain ⟨o',e1⟩:=I.base.there b o e hx
  exact there b o' (neC b o e hx) e1
 ·obtain ⟨m1,e1⟩:=I.base.tbls b ps e
  obtain ⟨m2,e2⟩:=tbls b _ e1
  exact ⟨m1++m2,by rw [e2,Array.append_assoc]⟩
 ·obtain ⟨m,hn,hl⟩:=I.loc
  refine ⟨m,ns m hn,fun i x v e1 e2 e3=>?_⟩
  obtain ⟨u,r,l⟩:=hl i x v e1 e2 e3
  refine ⟨u,r,?_⟩
  rcases l with l | ⟨k,c,e,z⟩
  ·exact .inl l
  ·exact .inr ⟨k,c,e,cellK x c e _ z⟩
 ·obtain ⟨v,z⟩:=I.cell x c e
  exact ⟨v,cellK x c e v z⟩
 ·obtain ⟨m,⟨o,_,_,ho,_⟩,_⟩:=I.loc
  exact free _ o (fun z=>(hch _ z).2.1 rfl) ho I.free
 ·obtain ⟨v,o,ho,hd⟩:=I.cell x c e
  exact free c o (fun z=>(hch c z).2.2.1 x c e rfl) ho (I.freeC x c e)
 ·obtain ⟨e,n,ne,nf,d⟩:=I.pin p hp
  have nch:p.1∉ch:=fun z=>(hch p.1 z).2.2.2 p hp rfl
  exact ⟨keep p.1 p.2 ne nf nch e n,free p.1 p.2 nch e n,ne,nf,d⟩
theorem Inv.un {t':Nat} (I:Inv X pins σ H s) (u:Un X.fs [] H H' s.heap h') (hok:HOk X.prog X.w H' h'):Inv X pins σ H' { s with heap:=h',toks:=t' }:=by
 obtain ⟨m,⟨o,es,ep,ho,r⟩,_⟩:=id I.loc
 obtain ⟨sl,hL⟩:=u.any ho I.free (by simp)
 exact I.step (g':=s.gens) (d':=s.drawn) (ch:=[]) (fun _ z=>nomatch z) (fun b o _ hb _ e n=>u.keep b o e n hb (by simp)) (fun b o _ hb _ e n=>u.slot b o e n hb (by simp)) (fun b o _ e n=>u.free b o e n (by simp)) (fun b o _ e=>u.there b o e (by simp)) u.tups u.frzs u.tbls (fun m' hm=>by
  obtain ⟨o',es',ep',ho',r'⟩:=hm
  rw [ho] at ho'; cases ho'
  exact ⟨_,es',ep',hL,r'⟩) hok I.bare
theorem Inv.call {g':Array GenState} {t':Nat} {d':Drawn} {ch:List Addr} (I:Inv X pins σ H s) (u:Un (frs X.stack) ch H H' s.heap h') (hok:HOk X.prog X.w H' h') (hg:AllBare g')
  (hch:∀ b∈ch,(b∈X.ex∨X.s₀.heap.objs.size<=b)/\b≠X.env.locals/\(∀ x c,X.env.cells.lookup x=some c->c≠b)/\∀ p∈X.pn++pins,p.1≠b) :
  Inv X pins σ H' { s with heap:=h',gens:=g',drawn:=d',toks:=t' }:=by
 obtain ⟨m,⟨o,es,ep,ho,r⟩,_⟩:=id I.loc
 obtain ⟨sl,hL⟩:=u.any ho I.free fun z=>(hch _ z).2.1 rfl
 exact I.step (ch:=ch) hch (fun b o hL hb hc e n=>u.keep b o e n (fun z=>(List.mem_cons.mp (I.stkSub b z)).elim hL hb) hc) (fun b o _ _ hc e n=>u.any e n hc) (fun b o hc e n=>u.free b o e n hc) (fun b o hc e=>u.there b o e hc) u.tups u.frzs u.tbls (fun m' hm=>by
  obtain ⟨o',es',ep',ho',r'⟩:=hm
  rw [ho] at ho'; cases ho'
  exact ⟨_,es',ep',hL,r'⟩) hok hg
theorem Inv.turned {t':Nat} {it:Addr} (I:Inv X pins σ H s) (k:∀ b o,b≠it->s.heap.get? b=some o->h'.get? b=some o) (hn:H it=none) (hL:it≠X.env.locals)
  (h1:it∈X.ex∨X.s₀.heap.objs.size<=it) (h2:∀ x c,X.env.cells.lookup x=some c->c≠it) (h3:∀ p∈X.pn++pins,p.1≠it):Inv X pins σ H { s with heap:=h',toks:=t' }:=by
 have nit:∀ b u,H b=some u->b≠it:=fun b u e z=>by rw [z,hn] at e; cases e
 refine I.step (g':=s.gens) (d':=s.drawn) (ch:=[it]) (fun b hb=>?_) (fun b o _ _ hc e _=>k b o (fun z=>hc (by simp [z])) e) (fun b o _ _ hc e _=>⟨o.slots,k b o (fun z=>hc (by simp [z])) e⟩) (fun _ _ _ _ n=>n)
  (fun b o hc e=>⟨o,k b o (fun z=>hc (by simp [z])) e⟩) (fun _ _ e=>e) (fun _ _ _ e=>e) (fun b ps e=>⟨#[],by rw [e]; simp⟩) (fun m hm=>?_) (fun b u e=>?_) I.bare
 ·have e:b=it:=by simpa using hb
  subst e
  exact ⟨h1,hL,h2,h3⟩
 ·obtain ⟨o,es,ep,ho,r⟩:=hm
  exact ⟨o,es,ep,k _ o (Ne.symm hL) ho,r⟩
 ·refine (I.hok b u e).stay (fun c v hc q=>k c v ?_ q) (fun _ q=>q) fun _ _ q=>q
  rcases hc with z | z
  ·rw [z]; exact nit b u e
  ·exact nit c _ z
theorem Inv.tok (I:Inv X pins σ H s) (t:Nat):Inv X pins σ H { s with toks:=t }:=I.un (h':=s.heap) (t':=t) Un.refl I.hok
theorem Inv.kept {t':Nat} (I:Inv X pins σ H s) (k:∀ b u,s.heap.get? b=some u->h'.get? b=some u):Inv X pins σ H { s with heap:=h',toks:=t' }:=I.un (Un.kept k) (I.hok.kept k)
theorem Inv.laid {a:Addr} {o:HO} {t':Nat} (I:Inv X pins σ H s) (k:∀ b u,s.heap.get? b=some u->h'.get? b=some u) (hp:s.heap.objs.size<=a) (new:aCd X.prog X.w (upd H a o) h' a o) :
  Inv X pins σ (upd H a o) { s with heap:=h',toks:=t' }:=I.un (Un.laid k hp (I.hok.fresh hp)) (I.hok.laid k hp new)
theorem Inv.write {x e:Addr} {o:HO} {t':Nat} (I:Inv X pins σ H s) (mu:Mut (H x)) (he:e=x∨H e=some (.own x)) (k:∀ b u,b≠e->s.heap.get? b=some u->h'.get? b=some u) (heo:∃ u,h'.get? e=some u)
  (new:aCd X.prog X.w (upd H x o) h' x o):Inv X pins σ (upd H x o) { s with heap:=h',toks:=t' }:=I.un (Un.write mu he k heo) (I.hok.write mu he k heo new)
theorem Inv.pins_of {pins':List (Addr×Obj)} (I:Inv X pins σ H s) (h:∀ p∈pins',s.heap.get? p.1=some p.2/\H p.1=none/\p.1≠X.env.locals/\p.1∉X.fs/\∀ v,p.2.data≠.cell v):Inv X pins' σ H s :=
 ⟨I.ok,I.os,I.bare,I.base,I.loc,I.cell,I.free,I.freeC,fun p hp=>(List.mem_append.mp hp).elim (fun z=>I.pin p (List.mem_append_left _ z)) (h p),I.hok,I.len⟩
theorem aKc {N:List Str} (hN:N.Nodup) {i j:Nat} {x:Str} (a:N[i]?=some x) (b:N[j]?=some x):i=j:=by
 obtain ⟨h1,e1⟩:=List.getElem?_eq_some_iff.mp a
 obtain ⟨h2,e2⟩:=List.getElem?_eq_some_iff.mp b
 exact (List.getElem_inj hN).mp (e1.trans e2.symm)
theorem aK0 {M:Model} {A:Around} {E:Value->Shared->Prop} {i:Nat} {x:Str} {v:V} {u:Value} {Q:Unit->Shared->Prop} (I:Inv X pins σ H s) (hN:X.N.Nodup) (hi:X.N[i]?=some x) (hx:Loc X.env.scope x) (r:aB6 v u)
  (h:∀ s',Inv X pins (σ.set i (some v)) H s'->(∃ a,Heap.SameBut a s.heap s'.heap/\(a=X.env.locals∨X.env.cells.lookup x=some a))->Q () s') (hf:X.fn x=true∨X.env.scope.names.lookup x=some .local:=by first | exact .inl rfl | exact .inr rfl | assumption):wpAny M A (storeName X.env x u) Q E s:=by
 obtain ⟨m,hn,hl⟩:=id I.loc
 have hcls:(X.env.scope.kind==.class || (X.env.scope.kind==.module&&X.env.locals !=X.env.globals))=false:=by rw [I.ok.kind]; rfl
 have hiσ:i < σ.length:=by rw [I.len]; exact (List.getElem?_eq_some_iff.mp hi).1
 have cne:=I.cne
 have tracked:∀ {a:Addr} {h':Heap},(∃ o,s.heap.get? a=some o/\H a=none)->Heap.SameBut a s.heap h'->HOk X.prog X.w H h':=fun {a h'} ha hs b ob e=>by
  obtain ⟨_,_,hfree⟩:=ha
  refine (I.hok b ob e).stay (fun c w' hc q=>(hs.2 c ?_).trans q) (fun _ q=>q) fun _ _ q=>q
  rintro rfl
  rcases hc with rfl | hc
  ·rw [hfree] at e; cases e
  ·rw [hfree] at hc; cases hc
 rcases hx with hk | hk
 ·refine wpAny_storeName_local hk hn (fun h' hn' hs=>?_) hcls
  obtain ⟨oL,_,_,hoL,_⟩:=id hn
  refine h _ ⟨I.ok,I.os,I.bare,⟨fun b o e n hb hx=>?_,fun b o e n hb hx=>?_,I.base.free,fun b o e hx=>?_,I.base.tups,I.base.frzs,I.base.tbls⟩,⟨_,hn',fun j y v' e1 e2 e3=>?_⟩,fun y c e=>?_,I.free,I.freeC,fun p hp=>?_,tracked ⟨oL,hoL,I.free⟩ hs,by simpa using I.len⟩ ⟨_,hs,.inl rfl⟩
  ·exact (hs.2 b (Nat.ne_of_lt (Nat.lt_of_lt_of_le (Heap.lt_size e) I.ok.above))).trans (I.base.keep b o e n hb hx)
  ·obtain ⟨sl,e1⟩:=I.base.slot b o e n hb hx
   exact ⟨sl,(hs.2 b (Nat.ne_of_lt (Nat.lt_of_lt_of_le (Heap.lt_size e) I.ok.above))).trans e1⟩
  ·obtain ⟨o',e1⟩:=I.base.there b o e hx
   exact ⟨o',(hs.2 b (Nat.ne_of_lt (Nat.lt_of_lt_of_le (Heap.lt_size e) I.ok.above))).trans e1⟩
  ·by_cases hj:j=i
   ·subst hj
    rw [hi] at e1; cases e1
    rw [List.getElem?_set_self hiσ] at e2
    cases e2
    exact ⟨u,r,.inl ⟨hk,by simp⟩⟩
   ·rw [List.getElem?_set_ne (Ne.symm hj)] at e2
    obtain ⟨u',r',q⟩:=hl j y v' e1 e2 e3
    refine ⟨u',r',?_⟩
    rcases q with ⟨k,e⟩ | ⟨k,c,e,z⟩
    ·refine .inl ⟨k,?_⟩
     have:y≠x:=fun e=>hj (aKc hN e1 (e ▸ hi))
     simp [this,e]
    ·exact .inr ⟨k,c,e,z.sameBut hs (cne y c e)⟩
  ·obtain ⟨w',z⟩:=I.cell y c e
   exact ⟨w',z.sameBut hs (cne y c e)⟩
  ·obtain ⟨e,n,ne,nf,d⟩:=I.pin p hp
   exact ⟨(hs.2 p.1 ne).trans e,n,ne,nf,d⟩
 ·have hfn:X.fn x=true:=by
   rcases hf with z | z
   ·exact z
   ·rw [z] at hk; cases hk
  obtain ⟨c,hc⟩:=I.ok.has x (.inl hk)
  obtain ⟨w',z⟩:=I.cell x c hc
  refine wpAny_storeName_cell I.ok.kind hk hc z (fun h' hc' hs=>?_)
  obtain ⟨oc,hoc,hocd⟩:=id z
  refine h { s with heap:=h' } ⟨I.ok,I.os,I.bare,⟨fun b o e n hb hx=>?_,fun b o e n hb hx=>?_,I.base.free,fun b o e hx=>?_,I.base.tups,I.base.frzs,I.base.tbls⟩,⟨m,hn.sameBut hs (Ne.symm (cne x c hc)),fun j y v' e1 e2 e3=>?_⟩,fun y c' e=>?_,I.free,I.freeC,fun p hp=>?_,tracked ⟨oc,hoc,I.freeC x c hc⟩ hs,by simpa using I.len⟩ ⟨c,hs,.inr hc⟩
  ·exact (hs.2 b (Nat.ne_of_lt (Nat.lt_of_lt_of_le (Heap.lt_size e) (I.ok.cab x c hfn hc)))).trans (I.base.keep b o e n hb hx)
  ·obtain ⟨sl,e1⟩:=I.base.slot b o e n hb hx
   exact ⟨sl,(hs.2 b (Nat.ne_of_lt (Nat.lt_of_lt_of_le (Heap.lt_size e) (I.ok.cab x c hfn hc)))).trans e1⟩
  ·obtain ⟨o',e1⟩:=I.base.there b o e hx
   exact ⟨o',(hs.2 b (Nat.ne_of_lt (Nat.lt_of_lt_of_le (Heap.lt_size e) (I.ok.cab x c hfn hc)))).trans e1⟩
  ·by_cases hj:j=i
   ·subst hj
    rw [hi] at e1; cases e1
    rw [List.getElem?_set_self hiσ] at e2
    cases e2
    exact ⟨u,r,.inr ⟨.inl hk,c,hc,hc'⟩⟩
   ·rw [List.getElem?_set_ne (Ne.symm hj)] at e2
    obtain ⟨u',r',q⟩:=hl j y v' e1 e2 e3
    refine ⟨u',r',?_⟩
    rcases q with q | ⟨k,c',e,z'⟩
    ·exact .inl q
    ·refine .inr ⟨k,c',e,z'.sameBut hs ?_⟩
     rintro rfl
     exact hj (aKc hN e1 (I.ok.inj _ _ _ e hc ▸ hi))
  ·by_cases hcc:c'=c
   ·subst hcc; exact ⟨_,hc'⟩
   ·obtain ⟨w2,z2⟩:=I.cell y c' e
    exact ⟨w2,z2.sameBut hs hcc⟩
  ·obtain ⟨e,n,ne,nf,d⟩:=I.pin p hp
   refine ⟨(hs.2 p.1 ?_).trans e,n,ne,nf,d⟩
   intro q
   rw [q,hoc] at e
   have q':oc=p.2:=Option.some.inj e
   exact d w' (by rw [← q']; exact hocd)
theorem aEo {M:Model} {A:Around} {E:Value->Shared->Prop} {i:Nat} {x:Str} {v:V} {u:Value} {Q:Unit->Shared->Prop} (I:Inv X pins σ H s) (hN:X.N.Nodup) (hi:X.N[i]?=some x) (hx:Loc X.env.scope x) (r:aB6 v u)
  (h:∀ s',Inv X pins (σ.set i (some v)) H s'->Q () s') (hf:X.fn x=true∨X.env.scope.names.lookup x=some .local:=by first | exact .inl rfl | exact .inr rfl | assumption):wpAny M A (storeName X.env x u) Q E s :=
 aK0 I hN hi hx r (fun s' I' _=>h s' I') hf
theorem Inv.call' {s':Shared} {ch:List Addr} (I:Inv X pins σ H s) (ho:s'.os=s.os) (u:Un (frs X.stack) ch H H' s.heap s'.heap) (hok:HOk X.prog X.w H' s'.heap) (hg:AllBare s'.gens)
  (hch:∀ b∈ch,(b∈X.ex∨X.s₀.heap.objs.size<=b)/\b≠X.env.locals/\(∀ x c,X.env.cells.lookup x=some c->c≠b)/\∀ p∈X.pn++pins,p.1≠b):Inv X pins σ H' s':=by
 obtain ⟨h',g',d',t',o'⟩:=s'
 have e:o'=s.os:=ho
 subst e
 exact I.call (g':=g') (t':=t') (d':=d') u hok hg hch
end
noncomputable abbrev XK:=Value->Option Addr->Hp->Prop
noncomputable abbrev St:=List (Option V)
noncomputable abbrev VK:=V->Hp->Prop
noncomputable abbrev TE:=St->Hp->VK->Prop
noncomputable abbrev TT:=St->Hp->(Bool->Hp->Prop)->Prop
noncomputable abbrev TA:=St->Hp->(List V->Hp->Prop)->Prop
structure aEx where
 nx:St->Hp->Prop
 rt:VK
 bk:St->Hp->Prop:=fun _ _=>False
 ct:St->Hp->Prop:=fun _ _=>False
noncomputable abbrev TS:=aEx->St->Hp->Prop
noncomputable def EP (X:Cx) (pins:List (Addr×Obj)) (σ:St) (Q:VK) (u:Value) (s':Shared):Prop:=∃ v H',Inv X pins σ H' s'/\aB6 v u/\Q v H'
noncomputable def TP (X:Cx) (pins:List (Addr×Obj)) (σ:St) (Q:Bool->Hp->Prop) (b:Bool) (s':Shared):Prop:=∃ H',Inv X pins σ H' s'/\Q b H'
noncomputable def AP (X:Cx) (pins:List (Addr×Obj)) (σ:St) (Q:List V->Hp->Prop) (us:List Value) (s':Shared):Prop:=∃ vs H',Inv X pins σ H' s'/\aB0 vs us/\Q vs H'
noncomputable def SP (X:Cx) (pins:List (Addr×Obj)) (D:aEx) (f:Flow) (s':Shared):Prop :=
 match f with
 | .next=>∃ σ' H',Inv X pins σ' H' s'/\D.nx σ' H'
 | .brk=>∃ σ' H',Inv X pins σ' H' s'/\D.bk σ' H'
 | .cont=>∃ σ' H',Inv X pins σ' H' s'/\D.ct σ' H'
 | .ret u=>∃ v σ' H',Inv X pins σ' H' s'/\aB6 v u/\D.rt v H'
noncomputable def PE (X:Cx) (e:Expr) (t:TE):Prop :=
 ∀ (pins:List (Addr×Obj)) (s:Shared) (σ:St) (H:Hp) (Q:VK),Inv X pins σ H s->t σ H Q->wpAny (model X.prog X.w) X.A (eval e X.env) (EP X pins σ Q) X.xe s
noncomputable def PT (X:Cx) (e:Expr) (t:TT):Prop :=
 ∀ (pins:List (Addr×Obj)) (s:Shared) (σ:St) (H:Hp) (Q:Bool->Hp->Prop),Inv X pins σ H s->t σ H Q->wpAny (model X.prog X.w) X.A (isTrue e X.env (eval e X.env)) (TP X pins σ Q) X.xe s
noncomputable def PW (X:Cx) (e:Expr) (t:TT):Prop :=
 ∀ (whole:Sem Value) (pins:List (Addr×Obj)) (s:Shared) (σ:St) (H:Hp) (Q:Bool->Hp->Prop),Inv X pins σ H s->t σ H Q->wpAny (model X.prog X.w) X.A (isTrue e X.env whole) (TP X pins σ Q) X.xe s
theorem PW.pt {X:Cx} {e:Expr} {t:TT} (h:PW X e t):PT X e t:=h _
noncomputable def PA (X:Cx) (es:List Expr) (t:TA):Prop :=
 ∀ (pos:Pos) (pins:List (Addr×Obj)) (s:Shared) (σ:St) (H:Hp) (Q:List V->Hp->Prop),Inv X pins σ H s->t σ H Q->wpAny (model X.prog X.w) X.A (spliced (backTo pos (starEach es X.env))) (AP X pins σ Q) X.xe s
noncomputable def PS (X:Cx) (st:Stmt) (t:TS):Prop :=
 ∀ (pins:List (Addr×Obj)) (s:Shared) (σ:St) (H:Hp) (D:aEx),Inv X pins σ H s->t D σ H->wpAny (model X.prog X.w) X.A (exec st X.env) (SP X pins D) X.xe s
noncomputable def PSs (X:Cx) (st:List Stmt) (t:TS):Prop :=
 ∀ (pins:List (Addr×Obj)) (s:Shared) (σ:St) (H:Hp) (D:aEx),Inv X pins σ H s->t D σ H->wpAny (model X.prog X.w) X.A (execs st X.env) (SP X pins D) X.xe s
theorem thn {α:Type} {t:Sem α} {Q Q':α->Shared->Prop} {M:Model} {A:Around} {E:Value->Shared->Prop} {s:Shared} (h:wpAny M A t Q E s) (hQ:∀ a s,Q a s->Q' a s):wpAny M A t Q' E s:=wpAny_mono h hQ fun _ _ x=>x
end L2
namespace L2
open PySem PySem.Spec PyProof.Rows
section
variable {X:Cx}
noncomputable def tVar (i:Nat):TE:=fun σ H Q=>∃ v,σ[i]?=some (some v)/\Q v H
noncomputable def tC (v:V):TE:=fun _ H Q=>Q v H
theorem bAy {i:Nat} {x:Str} {pos:Pos} (hN:X.N[i]?=some x) (hv:Vis X.env.scope x) (hd:(x==("__debug__":Str))=false:=by decide) (hcd:(x==("__classdict__":Str))=false:=by decide):PE X (.Name x pos) (tVar i):=by
 intro pins s σ H Q I h
 obtain ⟨v,e,h⟩:=h
 obtain ⟨m,hn,hl⟩:=I.loc
 obtain ⟨u,r,l⟩:=hl i x v hN e hv
 have fin:EP X pins σ Q u s:=⟨v,H,I,r,h⟩
 rcases l with ⟨hk,hm⟩ | ⟨hk,c,hc,hcell⟩
 ·exact wpAny_Name (wpAny_loadName_local I.ok.kind hk hn hm fin) hd
 ·rcases hk with hk | hk
  ·exact wpAny_Name (wpAny_loadName_cell I.ok.kind hk hc hcell fin) hd
  ·exact wpAny_Name (wpAny_loadName_free I.ok.kind hk hc hcell fin hcd) hd
theorem aAb {i j pos}:PE X (.Constant (.int i) j pos) (tC (.int i)):=fun _ _ _ H _ I h=>wpAny_Constant_int ⟨.int i,H,I.tok _,⟨_,rfl⟩,h⟩
theorem aJ7 {b j pos}:PE X (.Constant (.bool b) j pos) (tC (.bl b)):=fun _ _ _ H _ I h=>Constant_bool ⟨.bl b,H,I,rfl,h⟩
theorem aBj {j pos}:PE X (.Constant .none j pos) (tC .non):=fun _ _ _ H _ I h=>Constant_none ⟨.non,H,I,rfl,h⟩
theorem aAi {x j pos}:PE X (.Constant (.str x) j pos) (tC (.str x)):=fun _ _ _ H _ I h=>Calls.Constant_str ⟨.str x,H,I.tok _,⟨_,rfl⟩,h⟩
noncomputable def Gl (X:Cx) (x:Str):Prop:=X.env.kindOf x=some .globalImplicit
theorem aH3 {E:Value->Shared->Prop} {pins:List (Addr×Obj)} {s:Shared} {σ:St} {H:Hp} {x:Str} {u:Value} {pos:Pos} {Q:Value->Shared->Prop} (I:Inv X pins σ H s) (hg:Gl X x) (hm:X.mg x=some u) (h:Q u s)
  (hd:(x==("__debug__":Str))=false:=by decide):wpAny (model X.prog X.w) X.A (eval (.Name x pos) X.env) Q E s :=
 Calls.Name_function_global I.ok.kind hg (Calls.loadGlobal_global (by rw [I.ok.glob]; exact I.mod.glob.keeps I.bk) hm h) hd
theorem aLx {E:Value->Shared->Prop} {pins:List (Addr×Obj)} {s:Shared} {σ:St} {H:Hp} {x:Str} {u:Value} {pos:Pos} {Q:Value->Shared->Prop} (I:Inv X pins σ H s) (hg:Gl X x) (hm:X.mg x=none) (hv:bootBuiltins x=some u) (h:Q u s)
  (hn:x≠"__name__":=by decide) (hd:(x==("__debug__":Str))=false:=by decide):wpAny (model X.prog X.w) X.A (eval (.Name x pos) X.env) Q E s:=by
 obtain ⟨mb,h1,h2⟩:=I.mod.blt
 exact Calls.Name_function_global I.ok.kind hg (Calls.loadGlobal_builtin (by rw [I.ok.glob]; exact I.mod.glob.keeps I.bk) hm (by rw [I.ok.blt]; exact h1.keeps I.bk) ((h2 x hn).trans hv) h) hd
theorem aCe {x:Str} {v:V} {u:Value} {pos:Pos} (hg:Gl X x) (hm:X.mg x=some u) (r:aB6 v u) (hd:(x==("__debug__":Str))=false:=by decide):PE X (.Name x pos) (tC v) :=
 fun _ _ _ H _ I h=>aH3 I hg hm ⟨v,H,I,r,h⟩ hd
theorem aF5 {x:Str} {v:V} {u:Value} {pos:Pos} (hg:Gl X x) (hm:X.mg x=none) (hv:bootBuiltins x=some u) (r:aB6 v u) (hn:x≠"__name__":=by decide) (hd:(x==("__debug__":Str))=false:=by decide):PE X (.Name x pos) (tC v) :=
 fun _ _ _ H _ I h=>aLx I hg hm hv ⟨v,H,I,r,h⟩ hn hd
variable {a b:Expr} {ta tb:TE} {pos:Pos}
noncomputable def PC (X:Cx) (op:CmpOp) (a b:Expr) (t:TE):Prop :=
 ∀ (pins:List (Addr×Obj)) (s:Shared) (σ:St) (H:Hp) (Q:VK),Inv X pins σ H s->t σ H Q ->
  wpAny (model X.prog X.w) X.A (eval a X.env) (fun v s₁=>wpAny (model X.prog X.w) X.A (eval b X.env) (fun u s₂=>wpAny (model X.prog X.w) X.A (compareOp op v u) (EP X pins σ Q) X.xe s₂) X.xe s₁) X.xe s
noncomputable def tB (t:TE):TT:=fun σ H Q=>t σ H fun x H1=>∃ c,x=.bl c/\Q c H1
theorem aU9 {op:CmpOp} {t:TE} (h:PC X op a b t) (h1:behindInMarks op b=false:=by first | exact nobehind _ (by decide) (by decide) | rfl):PE X (.Compare a [op] [b] pos) t:=fun pins s σ H Q I hw=>wpAny_Compare1 (h pins s σ H Q I hw) h1
theorem aU4 {op:CmpOp} {t:TE} (h:PC X op a b t) (h1:behindInMarks op b=false:=by first | exact nobehind _ (by decide) (by decide) | rfl):PT X (.Compare a [op] [b] pos) (tB t):=by
 intro pins s σ H Q I hw
 refine wpAny_isTrue_Compare1 (thn (h pins s σ H _ I hw) fun v s1 h1=>thn h1 fun u s2 h2=>thn h2 fun c s3 ⟨x,H1,I1,r1,q1⟩=>?_) h1
 obtain ⟨d,rfl,q⟩:=q1
 cases r1
 exact wpAny_truthy_bool ⟨H1,I1,q⟩
theorem aCq {e:Expr} {t:TE} (h:PE X e t) (he:∀ whole,isTrue e X.env whole=(do let v ← whole; standAt e.pos; holding [v] (truthy v)):=by intro _; rfl):PT X e (tB t):=by
 intro pins s σ H Q I hw
 refine isTrue_plain (thn (h pins s σ H _ I hw) fun v s1 ⟨x,H1,I1,r1,q1⟩=>?_) (he _)
 obtain ⟨d,rfl,q⟩:=q1
 cases r1
 exact wpAny_truthy_bool ⟨H1,I1,q⟩
variable {tA tB':TT} {aDj:List Expr}
noncomputable def tAnd (t u:TT):TT:=fun σ H Q=>t σ H fun c H1=>if c=true then u σ H1 Q else Q false H1
noncomputable def tOr (t u:TT):TT:=fun σ H Q=>t σ H fun c H1=>if c=true then Q true H1 else u σ H1 Q
noncomputable def tNot (t:TT):TT:=fun σ H Q=>t σ H fun c H1=>Q (!c) H1
theorem aCl (ha:PT X a tA):PW X (.BoolOp .And [a] pos) tA:=by
 intro wh pins s σ H Q I h
 refine isTrue_and (thn (ha pins s σ H Q I h) fun c s1 e=>?_)
 cases c with
 | true=>exact isTrue_and_nil e
 | false=>exact e
theorem aGj (ha:PT X a tA):PW X (.BoolOp .Or [a] pos) tA:=by
 intro wh pins s σ H Q I h
 refine isTrue_or (thn (ha pins s σ H Q I h) fun c s1 e=>?_)
 cases c with
 | false=>exact isTrue_or_nil e
 | true=>exact e
theorem aCf (ha:PT X a tA) (hb:PW X (.BoolOp .And (b::aDj) pos) tB'):PW X (.BoolOp .And (a::b::aDj) pos) (tAnd tA tB'):=by
 intro wh pins s σ H Q I h
 refine isTrue_and (thn (ha pins s σ H _ I h) fun c s1 ⟨H1,I1,q1⟩=>?_)
 cases c with
 | true=>exact hb wh pins s1 σ H1 Q I1 q1
 | false=>exact ⟨H1,I1,q1⟩
theorem aHs (ha:PT X a tA) (hb:PW X (.BoolOp .Or (b::aDj) pos) tB'):PW X (.BoolOp .Or (a::b::aDj) pos) (tOr tA tB'):=by
 intro wh pins s σ H Q I h
 refine isTrue_or (thn (ha pins s σ H _ I h) fun c s1 ⟨H1,I1,q1⟩=>?_)
 cases c with
 | true=>exact ⟨H1,I1,q1⟩
 | false=>exact hb wh pins s1 σ H1 Q I1 q1
theorem aC7 (ha:PT X a tA):PT X (.UnaryOp .Not a pos) (tNot tA):=by
 intro pins s σ H Q I h
 exact isTrue_not (ha pins s σ H (fun c H1=>Q (!c) H1) I h)
noncomputable def aYs (ta tb:TE):TE:=fun σ H Q=>ta σ H fun x H1=>∃ c,x=.bl c/\if c=true then tb σ H1 Q else Q (.bl false) H1
noncomputable def aYi (ta:TE):TE:=fun σ H Q=>ta σ H fun x H1=>∃ c,x=.bl c/\Q (.bl (!c)) H1
theorem aFl {op} {t:TE} (h:PE X a t):PE X (.BoolOp op [a] pos) t:=fun pins s σ H Q I hw=>BoolOp_one (h pins s σ H Q I hw)
theorem aEg (ha:PE X a ta) (hb:PE X (.BoolOp .And (b::aDj) pos) tb):PE X (.BoolOp .And (a::b::aDj) pos) (aYs ta tb):=by
 intro pins s σ H Q I h
 refine BoolOp_and (thn (ha pins s σ H _ I h) fun v s1 ⟨x,H1,I1,r1,q1⟩=>?_)
 obtain ⟨c,rfl,q1⟩:=q1
 cases r1
 refine wpAny_truthy_bool ?_
 cases c with
 | true=>exact hb pins s1 σ H1 Q I1 q1
 | false=>exact ⟨.bl false,H1,I1,rfl,q1⟩
theorem aU8 (ha:PE X a ta):PE X (.UnaryOp .Not a pos) (aYi ta):=by
 intro pins s σ H Q I h
 refine UnaryOp_ (thn (ha pins s σ H _ I h) fun v s1 ⟨x,H1,I1,r1,q1⟩=>?_)
 obtain ⟨c,rfl,q1⟩:=q1
 cases r1
 exact not_of (wpAny_truthy_bool ⟨.bl (!c),H1,I1,rfl,q1⟩)
noncomputable def tIf (t:TT) (ta tb:TE):TE:=fun σ H Q=>t σ H fun c H1=>if c=true then ta σ H1 Q else tb σ H1 Q
theorem aTn {c:Expr} (hc:PT X c tA) (ha:PE X a ta) (hb:PE X b tb):PE X (.IfExp c a b pos) (tIf tA ta tb):=by
 intro pins s σ H Q I h
 refine wpAny_IfExp (thn (hc pins s σ H _ I h) fun d s1 ⟨H1,I1,q1⟩=>?_)
 cases d with
 | true=>exact ha pins s1 σ H1 Q I1 q1
 | false=>exact hb pins s1 σ H1 Q I1 q1
end
end L2
namespace L2
open PySem PySem.Spec PyProof.Rows
noncomputable def SqL (K:PySem.W.Frag) (H:Hp) (a:Addr) (xs:List V):Prop :=
 Rd H a (.lst xs) ∨
  ∃ (o:Obj) (its:Array Value) (n:Nat),K.lookup a=some o/\o.cls=.type "list"/\o.dict=none/\o.data=.seq its n/\its.size<=sizeLine/\aB0 xs its.toList
noncomputable def SqT (K:PySem.W.Frag) (H:Hp) (a:Addr) (xs:List V):Prop :=
 Rd H a (.tup xs) ∨
  ∃ (o:Obj) (its:Array Value) (n:Nat),K.lookup a=some o/\o.cls=.type "tuple"/\o.data=.seq its n/\its.size<=sizeLine/\aB0 xs its.toList
noncomputable def absV:Value->Option V
 | .none=>some .non
 | .bool b=>some (.bl b)
 | .int i _=>some (.int i)
 | .str x _=>some (.str x)
 | .bytes b _=>some (.byt b)
 | .float b _=>some (.flt b)
 | .ref a=>some (.ref a)
 | .type n=>some (.ty n)
 | _=>none
theorem aB6.abs {x:V} {u:Value} (r:aB6 x u):absV u=some x:=by
 cases x with
 | non=>cases r; rfl
 | bl _=>cases r; rfl
 | int _=>obtain ⟨t,rfl⟩:=r; rfl
 | str _=>obtain ⟨t,rfl⟩:=r; rfl
 | byt _=>obtain ⟨t,rfl⟩:=r; rfl
 | flt _=>obtain ⟨t,rfl⟩:=r; rfl
 | ref _=>cases r; rfl
 | ty _=>cases r; rfl
theorem aB6.inj {x y:V} {u:Value} (r:aB6 x u) (q:aB6 y u):x=y:=Option.some.inj (r.abs.symm.trans q.abs)
theorem aB0.inj:∀ {xs ys:List V} {us:List Value},aB0 xs us->aB0 ys us->xs=ys
 | _,_,_,.nil,.nil=>rfl
 | _,_,_,.cons r t,.cons r' t'=>by rw [r.inj r',aB0.inj t t']
section
variable {X:Cx} {pins:List (Addr×Obj)} {σ:St} {H:Hp} {s:Shared} {a:Addr} {xs ys:List V}
theorem SqL.of {K:PySem.W.Frag} (h:H a=some (.lst xs)):SqL K H a xs:=.inl (.inl h)
theorem SqT.of {K:PySem.W.Frag} (h:H a=some (.tup xs)):SqT K H a xs:=.inl (.inl h)
theorem Inv.list (I:Inv X pins σ H s) (h:SqL X.K H a xs):∃ its:List Value,aB0 xs its/\PlainL s.heap a its.toArray/\xs.length<=sizeLine:=by
 rcases h with h | ⟨o,its,n,hk,hc,hd,hs,hz,r⟩
 ·obtain ⟨z,its,n,r,e⟩:=h.ok I.hok
  exact ⟨its,r,⟨_,n,e,rfl,rfl,rfl⟩,z⟩
 ·refine ⟨its.toList,r,⟨o,n,I.kIn a o hk,hc,hd,by simpa using hs⟩,?_⟩
  have e:=r.length
  simp only [Array.length_toList] at e
  omega
theorem Inv.tuple (I:Inv X pins σ H s) (h:SqT X.K H a xs):∃ its:List Value,aB0 xs its/\IsTup s.heap a its.toArray/\xs.length<=sizeLine:=by
 rcases h with h | ⟨o,its,n,hk,hc,hs,hz,r⟩
 ·obtain ⟨z,its,r,p⟩:=h.ok I.hok
  exact ⟨its,r,p,z.1⟩
 ·refine ⟨its.toList,r,⟨o,I.kIn a o hk,hc,n,by simpa using hs⟩,?_⟩
  have e:=r.length
  simp only [Array.length_toList] at e
  omega
theorem Inv.list_inj (I:Inv X pins σ H s) (h:SqL X.K H a xs) (h':SqL X.K H a ys):xs=ys:=by
 obtain ⟨its,r,⟨o,n,e,_,_,d⟩,_⟩:=I.list h
 obtain ⟨its',r',⟨o',n',e',_,_,d'⟩,_⟩:=I.list h'
 rw [e] at e'; cases e'
 rw [d] at d'
 injection d' with d1 _
 have:its=its':=by simpa using congrArg Array.toList d1
 subst this
 exact r.inj r'
theorem Inv.tuple_inj (I:Inv X pins σ H s) (h:SqT X.K H a xs) (h':SqT X.K H a ys):xs=ys:=by
 obtain ⟨its,r,⟨o,e,_,n,d⟩,_⟩:=I.tuple h
 obtain ⟨its',r',⟨o',e',_,n',d'⟩,_⟩:=I.tuple h'
 rw [e] at e'; cases e'
 rw [d] at d'
 injection d' with d1 _
 have:its=its':=by simpa using congrArg Array.toList d1
 subst this
 exact r.inj r'
end
noncomputable abbrev Cx.wish (X:Cx) (E:Value->Shared->Prop):Cx:={ X with xe:=E }
noncomputable abbrev Cx.nox (X:Cx):Cx:=X.wish fun _ _=>False
theorem Cx.Ok.wish {X:Cx} (ok:X.Ok) (E:Value->Shared->Prop):(X.wish E).Ok :=
 ⟨ok.mod,ok.kind,ok.glob,ok.blt,ok.above,ok.inj,ok.has,ok.cab,ok.hd,ok.frames,ok.stk,ok.exf,ok.bs,ok.bsz,ok.noex,ok.exfs,ok.funs,ok.frf⟩
theorem Cx.Ok.unwish {X:Cx} {E:Value->Shared->Prop} (ok:(X.wish E).Ok):X.Ok :=
 ⟨ok.mod,ok.kind,ok.glob,ok.blt,ok.above,ok.inj,ok.has,ok.cab,ok.hd,ok.frames,ok.stk,ok.exf,ok.bs,ok.bsz,ok.noex,ok.exfs,ok.funs,ok.frf⟩
section
variable {X:Cx} {pins:List (Addr×Obj)} {σ:St} {H:Hp} {s:Shared} {E:Value -> Shared -> Prop}
theorem Inv.wish (I:Inv X pins σ H s) (E:Value->Shared->Prop):Inv (X.wish E) pins σ H s:=⟨I.ok.wish E,I.os,I.bare,I.base,I.loc,I.cell,I.free,I.freeC,I.pin,I.hok,I.len⟩
theorem Inv.unwish (I:Inv (X.wish E) pins σ H s):Inv X pins σ H s:=⟨I.ok.unwish,I.os,I.bare,I.base,I.loc,I.cell,I.free,I.freeC,I.pin,I.hok,I.len⟩
theorem SP.unwish {D:aEx} {f:Flow} {s':Shared} (h:SP (X.wish E) pins D f s'):SP X pins D f s':=by
 cases f with
 | next=>obtain ⟨σ',H',I,q⟩:=h; exact ⟨σ',H',I.unwish,q⟩
 | brk=>obtain ⟨σ',H',I,q⟩:=h; exact ⟨σ',H',I.unwish,q⟩
 | cont=>obtain ⟨σ',H',I,q⟩:=h; exact ⟨σ',H',I.unwish,q⟩
 | ret u=>obtain ⟨v,σ',H',I,r,q⟩:=h; exact ⟨v,σ',H',I.unwish,r,q⟩
theorem PSs.nox {st:List Stmt} {t:TS} (h:PSs X.nox st t):PSs X st t:=fun pins s σ H D I hw =>
 wpAny_mono (h pins s σ H D (I.wish _) hw) (fun _ _ q=>q.unwish) fun _ _ z=>False.elim z
end
section
variable {X:Cx} {st:Stmt} {aDj:List Stmt} {t u:TS} {e:Expr} {te:TE} {pos:Pos}
noncomputable def aYj:TS:=fun D σ H=>D.nx σ H
noncomputable def tSeq (t u:TS):TS:=fun D σ H=>t { D with nx:=u D } σ H
theorem aAu:PSs X [] aYj:=fun _ _ σ H _ I h=>wpAny_execs_nil ⟨σ,H,I,h⟩
theorem aAe (h1:PS X st t) (h2:PSs X aDj u):PSs X (st::aDj) (tSeq t u):=by
 intro pins s σ H D I h
 refine wpAny_execs_cons (thn (h1 pins s σ H { D with nx:=u D } I h) fun f s1 q=>?_)
 cases f with
 | next =>
  obtain ⟨σ',H',I',q⟩:=q
  exact h2 pins s1 σ' H' D I' q
 | ret v=>exact q
 | brk=>exact q
 | cont=>exact q
theorem aAf (h1:PS X st t):PSs X [st] t:=by
 intro pins s σ H D I h
 refine wpAny_execs_cons (thn (h1 pins s σ H D I h) fun f s1 q=>?_)
 cases f with
 | next=>exact wpAny_execs_nil q
 | ret v=>exact q
 | brk=>exact q
 | cont=>exact q
theorem Inv.quiet {pins:List (Addr×Obj)} {σ:St} {H:Hp} {s:Shared} (I:Inv X pins σ H s):interactive X.env=false:=by simp [interactive,I.ok.kind]
noncomputable def aYo (te:TE):TS:=fun D σ H=>te σ H fun _ H1=>D.nx σ H1
theorem aBh (he:PE X e te) (hs:swapsWith e none pos.line X.env=pure false:=by rfl):PS X (.Expr e pos) (aYo te):=by
 intro pins s σ H D I h
 exact wpAny_Expr_any (thn (he pins s σ H _ I h) fun v s1 ⟨x,H1,I1,r1,q1⟩=>⟨σ,H1,I1,q1⟩) I.quiet hs
noncomputable def tRet (te:TE):TS:=fun D σ H=>te σ H D.rt
theorem aAq (he:PE X e te):PS X (.Return (some e) pos) (tRet te):=by
 intro pins s σ H D I h
 exact wpAny_Return_some (thn (he pins s σ H _ I h) fun v s1 ⟨x,H1,I1,r1,q1⟩=>⟨x,σ,H1,I1,r1,q1⟩)
noncomputable def tIfS (c:TT) (t u:TS):TS:=fun D σ H=>c σ H fun b H1=>if b=true then t D σ H1 else u D σ H1
theorem aA6 {c:Expr} {a b:List Stmt} {tc:TT} (hc:PT X c tc) (ha:PSs X a t) (hb:PSs X b u):PS X (.If c a b pos) (tIfS tc t u):=by
 intro pins s σ H D I h
 refine wpAny_If (thn (hc pins s σ H _ I h) fun d s1 ⟨H1,I1,q1⟩=>?_)
 cases d with
 | true=>exact ha pins s1 σ H1 D I1 q1
 | false=>exact hb pins s1 σ H1 D I1 q1
noncomputable def aYk:TS:=fun _ _ _=>False
theorem aJ6:PS X st aYk:=fun _ _ _ _ _ _ h=>h.elim
end
noncomputable abbrev TG:=V->St->Hp->(St->Hp->Prop)->Prop
noncomputable abbrev TGs:=List V->St->Hp->(St->Hp->Prop)->Prop
noncomputable def PG (X:Cx) (target:Expr) (t:TG):Prop :=
 ∀ (pins:List (Addr×Obj)) (s:Shared) (σ:St) (H:Hp) (v:V) (u:Value) (Q:St->Hp->Prop),Inv X pins σ H s->aB6 v u->t v σ H Q ->
  wpAny (model X.prog X.w) X.A (assign target X.env u) (fun _ s'=>∃ σ' H',Inv X pins σ' H' s'/\Q σ' H') X.xe s
noncomputable def PGs (X:Cx) (ts:List Expr) (t:TGs):Prop :=
 ∀ (pins:List (Addr×Obj)) (s:Shared) (σ:St) (H:Hp) (vs:List V) (us:List Value) (Q:St->Hp->Prop),Inv X pins σ H s->aB0 vs us->t vs σ H Q ->
  wpAny (model X.prog X.w) X.A (assignInOrder ((assignEach ts X.env).map (·.2)) us) (fun _ s'=>∃ σ' H',Inv X pins σ' H' s'/\Q σ' H') X.xe s
noncomputable abbrev TSet:=V->V->V->Hp->(Hp->Prop)->Prop
noncomputable def PSet (X:Cx) (t:TSet):Prop :=
 ∀ (pins:List (Addr×Obj)) (s:Shared) (σ:St) (H:Hp) (o i v:V) (ov iv u:Value) (Q:Hp->Prop),Inv X pins σ H s->aB6 o ov->aB6 i iv->aB6 v u->t o i v H Q ->
  wpAny (model X.prog X.w) X.A (setItem ov iv u) (fun _ s'=>∃ H',Inv X pins σ H' s'/\Q H') X.xe s
noncomputable abbrev TIp:=V->V->Hp->VK->Prop
noncomputable def PIp (X:Cx) (op:Operator) (t:TIp):Prop :=
 ∀ (pins:List (Addr×Obj)) (s:Shared) (σ:St) (H:Hp) (x y:V) (v u:Value) (Q:VK),Inv X pins σ H s->aB6 x v->aB6 y u->t x y H Q ->
  wpAny (model X.prog X.w) X.A (inplaceOp op v u) (EP X pins σ Q) X.xe s
section
variable {X:Cx} {pos:Pos}
noncomputable def aGr (i:Nat):TG:=fun v σ H Q=>Q (σ.set i (some v)) H
theorem aAx {i:Nat} {x:Str} (hN:X.N.Nodup) (hi:X.N[i]?=some x) (hx:Loc X.env.scope x) (hf:X.fn x=true∨X.env.scope.names.lookup x=some .local:=by first | exact .inl rfl | exact .inr rfl | assumption):PG X (.Name x pos) (aGr i):=by
 intro pins s σ H v u Q I r h
 exact wpAny_assign_Name (aEo I hN hi hx r (fun s' I'=>⟨_,H,I',h⟩) hf)
noncomputable def gNil:TGs:=fun vs σ H Q=>vs=[]/\Q σ H
noncomputable def aUb (t:TG) (u:TGs):TGs:=fun vs σ H Q=>∃ v r,vs=v::r/\t v σ H fun σ' H'=>u r σ' H' Q
theorem aM0:PGs X [] gNil:=by
 intro pins s σ H vs us Q I r h
 obtain ⟨e,h⟩:=h
 subst e
 cases r
 exact assignInOrder_nil ⟨σ,H,I,h⟩
theorem aD2 {e:Expr} {es:List Expr} {t:TG} {u:TGs} (h1:PG X e t) (h2:PGs X es u)
  (hs:(assignEach (e::es) X.env).map (·.2)=assign e X.env::(assignEach es X.env).map (·.2):=by rfl):PGs X (e::es) (aUb t u):=by
 intro pins s σ H vs us Q I r h
 obtain ⟨v,vr,e1,h⟩:=h
 subst e1
 cases r with
 | cons r rr =>
  rw [hs]
  refine assignInOrder_cons (thn (h1 pins s σ H _ _ _ I r h) fun _ s1 ⟨σ1,H1,I1,q1⟩=>?_)
  exact h2 pins s1 σ1 H1 _ _ Q I1 rr q1
noncomputable def gTup (K:PySem.W.Frag) (n:Nat) (t:TGs):TG:=fun v σ H Q=>∃ a xs,v=.ref a/\SqT K H a xs/\xs.length=n/\t xs σ H Q
theorem aU6 {es:List Expr} {k:Nat} {t:TGs} {n:Nat} (hc:X.calm=true) (h:PGs X es t)
  (hn:(assignEach es X.env).length=n:=by rfl) (hst:(assignEach es X.env).findIdx? (·.1)=none:=by rfl):PG X (.Tuple es k pos) (gTup X.K n t):=by
 intro pins s σ H v u Q I r hw
 obtain ⟨a,xs,e1,hq,hl,hw⟩:=hw
 subst e1
 cases r
 obtain ⟨its,rv,ht,hz⟩:=I.tuple hq
 refine assign_Tuple_tuple (I.ok.hd hc) ht (by simp [hn,← hl,rv.length]) hst fun h' hx=>?_
 have I1:Inv X pins σ H { s with heap:=h' }:=I.kept (t':=s.toks) fun b o e=>hx b o (Nat.ne_of_lt (Heap.lt_size e)) e
 exact h pins _ σ H xs _ Q I1 (by simpa using rv) hw
noncomputable def gSub (to ti:TE) (t:TSet):TG:=fun v σ H Q=>to σ H fun o H1=>ti σ H1 fun i H2=>t o i v H2 fun H3=>Q σ H3
theorem aU7 {o i:Expr} {to ti:TE} {t:TSet} (ho:PE X o to) (hi:PE X i ti) (hs:PSet X t)
  (ha:∀ v,assign (.Subscript o i pos) X.env v=(do
   let ov ← holding [v] (eval o X.env)
   let iv ← holding [v,ov] (eval i X.env)
   standAt pos
   holding [v,ov,iv] (setItem ov iv v)
   release [v,ov,iv] []):=by intro _; rfl):PG X (.Subscript o i pos) (gSub to ti t):=by
 intro pins s σ H v u Q I r h
 rw [ha]
 refine wpAny_bind (wpAny_holding (thn (ho pins s σ H _ I h) fun ov s1 ⟨x,H1,I1,r1,q1⟩=>?_))
 refine wpAny_bind (wpAny_holding (thn (hi pins s1 σ H1 _ I1 q1) fun iv s2 ⟨y,H2,I2,r2,q2⟩=>?_))
 refine wpAny_bind (wpAny_standAt (wpAny_bind (wpAny_holding (thn (hs pins s2 σ H2 x y v ov iv u _ I2 r1 r2 r q2) fun _ s3 ⟨H3,I3,q3⟩=>?_))))
 exact wpAny_release ⟨σ,H3,I3,q3⟩
noncomputable def tAsg (te:TE) (g:TG):TS:=fun D σ H=>te σ H fun x H1=>g x σ H1 D.nx
theorem aOj {tg e:Expr} {te:TE} {g:TG} (he:PE X e te) (hg:PG X tg g) (hs:swapsWithSole [tg] e pos.line X.env=pure false:=by rfl) (hw:swappedStores [tg] e X.env=pure none:=by rfl)
  (h1:(assignEach [tg] X.env).map (·.2)=[assign tg X.env]:=by rfl):PS X (.Assign [tg] e pos) (tAsg te g):=by
 intro pins s σ H D I h
 refine wpAny_Assign_stores (thn (he pins s σ H _ I h) fun v s1 ⟨x,H1,I1,r1,q1⟩=>?_) hs hw
 rw [h1]
 exact thn (hg pins s1 σ H1 x v _ I1 r1 q1) fun _ s2 q=>q
theorem aAp {i:Nat} {x:Str} {e:Expr} {te:TE} {pos':Pos} (hN:X.N.Nodup) (hi:X.N[i]?=some x) (hx:Loc X.env.scope x) (he:PE X e te) (hs:swapsWith e (some (.Name x pos')) pos.line X.env=pure false:=by rfl) (hf:X.fn x=true∨X.env.scope.names.lookup x=some .local:=by first | exact .inl rfl | exact .inr rfl | assumption) :
  PS X (.Assign [.Name x pos'] e pos) (tAsg te (aGr i)):=by
 intro pins s σ H D I h
 refine wpAny_Assign_Name (thn (he pins s σ H _ I h) fun v s1 ⟨y,H1,I1,r1,q1⟩=>?_) hs
 exact aEo I1 hN hi hx r1 (fun s2 I2=>⟨_,H1,I2,q1⟩) hf
noncomputable def tPar (i j:Nat) (ta:TA):TS:=fun D σ H=>ta σ H fun vs H1=>∃ v w,vs=[v,w]/\D.nx ((σ.set i (some v)).set j (some w)) H1
theorem bAt {i j:Nat} {x y:Str} {a b:Expr} {ta:TA} {px py pt:Pos} {kt k2 pt2} (hc:X.calm=true) (hN:X.N.Nodup) (hi:X.N[i]?=some x) (hj:X.N[j]?=some y) (hij:i≠j)
  (hx:X.env.scope.names.lookup x=some .local) (hy:X.env.scope.names.lookup y=some .local) (ha:PA X [a,b] ta)
  (hw:swappedStores [.Tuple [.Name x px,.Name y py] kt pt] (.Tuple [a,b] k2 pt2) X.env=pure (some [x,y]))
  (hs:swapsWithSole [.Tuple [.Name x px,.Name y py] kt pt] (.Tuple [a,b] k2 pt2) pos.line X.env=pure false:=by rfl) :
  PS X (.Assign [.Tuple [.Name x px,.Name y py] kt pt] (.Tuple [a,b] k2 pt2) pos) (tPar i j ta):=by
 intro pins s σ H D I h
 rw [exec_Assign_arm]
 refine wpAny_bind (wpAny_standAt ?_)
 rw [hs]
 refine wpAny_bind (wpAny_pure ?_)
 rw [if_neg (by decide)]
 refine wpAny_bind (Tuple_ (thn (ha _ pins s σ H _ I h) fun us s1 ⟨vs,H1,I1,r1,q1⟩=>?_))
 obtain ⟨v,w,e1,q1⟩:=q1
 subst e1
 obtain ⟨u1,u2,rfl,rv,rw'⟩:∃ u1 u2,us=[u1,u2]/\aB6 v u1/\aB6 w u2:=by
  cases r1 with
  | cons p q =>
   cases q with
   | cons p' q' =>
    cases q'
    exact ⟨_,_,rfl,p,p'⟩
 refine wpAny_newObj_type ?_ (by show 2<=sizeLine; decide)
 have I2:Inv X pins σ H1 { s1 with heap:=s1.heap.push { cls:=.type "tuple",data:=.seq [u1,u2].toArray } }:=I1.kept (t':=s1.toks) fun b o e=>Heap.get?_push_of_some _ e
 rw [hw]
 refine wpAny_bind (wpAny_pure ?_)
 show wpAny (model X.prog X.w) X.A (do rule "assign.swapped-stores"; let items ← unpackItems (.ref s1.heap.objs.size) 2 none; assignInOrder [fun v=>bindName X.env y v,fun v=>bindName X.env x v] items.reverse; pure Flow.next) _ _ _
 refine wpAny_bind (wpAny_rule (wpAny_bind (unpackItems_tuple (items:=#[u1,u2]) (I.ok.hd hc) (IsTup.new s1.heap _) fun h' hx'=>?_)))
 have I3:=I2.kept (h':=h') (t':=s1.toks) fun b o e=>hx' b o (Nat.ne_of_lt (Heap.lt_size e)) e
 show wpAny _ _ (assignInOrder [fun v=>bindName X.env y v,fun v=>bindName X.env x v] [u2,u1] >>= fun _=>pure Flow.next) _ _ _
 refine wpAny_bind (assignInOrder_cons (wpAny_bindName (aEo I3 hN hj (.inl hy) rw' (fun s2 I4=>?_) (.inr hy))))
 refine assignInOrder_cons (wpAny_bindName (aEo I4 hN hi (.inl hx) rv (fun s3 I5=>assignInOrder_nil (wpAny_pure ?_)) (.inr hx)))
 rw [List.set_comm _ _ (Ne.symm hij)] at I5
 exact ⟨_,H1,I5,q1⟩
noncomputable def tAug (i:Nat) (te:TE) (ti:TIp):TS:=fun D σ H=>∃ x,σ[i]?=some (some x)/\te σ H fun y H1=>ti x y H1 fun z H2=>D.nx (σ.set i (some z)) H2
theorem bAu {i:Nat} {x:Str} {e:Expr} {te:TE} {op:Operator} {ti:TIp} {pos':Pos} (hN:X.N.Nodup) (hi:X.N[i]?=some x) (hx:Loc X.env.scope x) (he:PE X e te) (ho:PIp X op ti) (hf:X.fn x=true∨X.env.scope.names.lookup x=some .local:=by first | exact .inl rfl | exact .inr rfl | assumption) :
  PS X (.AugAssign (.Name x pos') op e pos) (tAug i te ti):=by
 intro pins s σ H D I h
 obtain ⟨v,e1,h⟩:=h
 obtain ⟨m,hn,hl⟩:=I.loc
 have vis:Vis X.env.scope x:=by rcases hx with k | k; exact .inl k; exact .inr (.inl k)
 obtain ⟨u,r,l⟩:=hl i x v hi e1 vis
 refine wpAny_AugAssign_Name ?_
 have go:wpAny (model X.prog X.w) X.A (eval e X.env) (fun w s₂=>wpAny (model X.prog X.w) X.A (inplaceOp op u w) (fun r s₃=>wpAny (model X.prog X.w) X.A (storeName X.env x r) (fun _=>SP X pins D .next) X.xe s₃) X.xe s₂) X.xe s:=by
  refine thn (he pins s σ H _ I h) fun w s1 ⟨y,H1,I1,r1,q1⟩=>?_
  refine thn (ho pins s1 σ H1 v y u w _ I1 r r1 q1) fun z s2 ⟨zv,H2,I2,r2,q2⟩=>?_
  exact aEo I2 hN hi hx r2 (fun s3 I3=>⟨_,H2,I3,q2⟩) hf
 rcases l with ⟨hk,hm⟩ | ⟨hk,c,hc,hcell⟩
 ·exact wpAny_loadName_local I.ok.kind hk hn hm go
 ·rcases hk with hk | hk
  ·exact wpAny_loadName_cell I.ok.kind hk hc hcell go
  ·rcases hx with k | k
   ·have:X.env.scope.names.lookup x=some .free:=hk
    rw [k] at this; cases this
   ·have:X.env.scope.names.lookup x=some .free:=hk
    rw [k] at this; cases this
noncomputable def ipI (f:Int->Int->Int):TIp:=fun x y H Q=>∃ i j,x=.int i/\y=.int j/\Q (.int (f i j)) H
theorem bBs:PIp X .Add (ipI fun i j=>i+j):=by
 intro pins s σ H x y v u Q I r1 r2 h
 obtain ⟨i,j,e1,e2,q⟩:=h
 subst e1; subst e2
 obtain ⟨t,rfl⟩:=r1
 obtain ⟨t',rfl⟩:=r2
 exact iadd_int ⟨.int _,H,I.tok _,⟨_,rfl⟩,q⟩
end
section
variable {X:Cx} {pos:Pos}
noncomputable def aP8 (c:TT) (tb:TS):TS:=fun D σ H=>∃ W:Nat->St->Hp->Prop,(∃ m,W m σ H)/\∀ m σ H,W m σ H ->
 c σ H fun b H1=>if b=true then ∃ N:St->Hp->Prop,(∀ σ' H',N σ' H'->∃ m',m' < m/\W m' σ' H')/\tb { D with nx:=N,ct:=N,bk:=D.nx } σ H1 else D.nx σ H1
theorem aJ5 {c:Expr} {body:List Stmt} {tc:TT} {tb:TS} (hp:PassesOwn (model X.prog X.w) X.A X.env X.xe) (hc:PT X c tc) (hb:PSs X body tb):PS X (.While c body [] pos) (aP8 tc tb):=by
 intro pins s σ H D I h
 obtain ⟨W,⟨m0,w0⟩,turn⟩:=h
 refine wpAny_While (codeAny_whileLoop (fun n s'=>∃ σ' H',Inv X pins σ' H' s'/\W n σ' H') ?_ m0 ⟨σ,H,I,w0⟩)
 rintro n s1 ⟨σ1,H1,I1,w1⟩
 refine wpAny_passesOwn hp (thn (hc pins s1 σ1 H1 _ I1 (turn n σ1 H1 w1)) fun b s2 ⟨H2,I2,q2⟩=>?_)
 cases b with
 | true =>
  obtain ⟨N,hN,q2⟩:=q2
  rw [if_pos rfl]
  refine wpAny_passesOwn hp (thn (hb pins s2 σ1 H2 _ I2 q2) fun f s3 q3=>?_)
  cases f with
  | next =>
   obtain ⟨σ3,H3,I3,n3⟩:=q3
   obtain ⟨m',hm,w3⟩:=hN σ3 H3 n3
   exact ⟨m',hm,σ3,H3,I3,w3⟩
  | cont =>
   obtain ⟨σ3,H3,I3,n3⟩:=q3
   obtain ⟨m',hm,w3⟩:=hN σ3 H3 n3
   exact ⟨m',hm,σ3,H3,I3,w3⟩
  | brk=>exact q3
  | ret v=>exact q3
 | false =>
  rw [if_neg Bool.false_ne_true]
  exact wpAny_execs_nil ⟨σ1,H2,I2,q2⟩
end
structure It where
 go:Nat->Hp->Prop
 yld:Nat->Hp->V->Hp->Prop
 stop:Nat->Hp->Prop
noncomputable def aPz (X:Cx) (pins:List (Addr×Obj)) (H:Hp) (b:Addr):Prop :=
 H b=none/\b≠X.env.locals/\b∉X.fs/\(b∈X.ex∨X.s₀.heap.objs.size<=b)/\(∀ x c,X.env.cells.lookup x=some c->c≠b)/\∀ p∈X.pn++pins,p.1≠b
theorem Inv.fpOk {X:Cx} {pins:List (Addr×Obj)} {σ:St} {H H':Hp} {s:Shared} {b:Addr} (I:Inv X pins σ H s) (hb:s.heap.objs.size<=b) (hn:H' b=none):aPz X pins H' b:=by
 refine ⟨hn,Nat.ne_of_gt (Nat.lt_of_lt_of_le I.lt hb),I.nofs hb,.inr (Nat.le_trans I.sz hb),fun x c e z=>?_,fun p hp z=>?_⟩
 ·obtain ⟨v,q⟩:=I.cell x c e
  exact absurd (Nat.lt_of_lt_of_le q.lt (by rw [z]; exact hb)) (Nat.lt_irrefl _)
 ·exact absurd (Nat.lt_of_lt_of_le (Heap.lt_size (I.pin p hp).1) (by rw [z]; exact hb)) (Nat.lt_irrefl _)
structure bCf (P:Program) (w:World) (K:PySem.W.Frag) (tg:Expr) (J:It) (fp:List Addr) (it:Addr) (tn:Nat->Heap->Prop):Prop where
 mem:it∈fp
 obj:∀ i h,tn i h->∀ b∈fp,∃ o,h.get? b=some o/\∀ v,o.data≠.cell v
 keep:∀ i h h',tn i h->(∀ b∈fp,∀ o,h.get? b=some o->h'.get? b=some o)->tn i h'
 item:∀ (X:Cx),X.prog=P->X.w=w->X.K=K->X.calm=true->∀ (i:Nat) (pins:List (Addr×Obj)) (s:Shared) (σ:St) (H:Hp) (E:Value->Shared->Prop),Inv X pins σ H s->(∀ b∈fp,aPz X pins H b)->tn i s.heap->J.go i H ->
  wpAny (model P w) X.A (pyNext (.ref it)) (fun r s1=>∃ u,r=some u /\
   wpAny (model P w) X.A (letOwnedTupleGo tg (.ref it) u) (fun _ s2=>∃ x H',Inv X pins σ H' s2/\aB6 x u/\J.yld i H x H'/\tn (i+1) s2.heap/\∀ b∈fp,H' b=none) E s1) E s
 done:∀ (X:Cx),X.prog=P->X.w=w->X.K=K->X.calm=true->∀ (i:Nat) (pins:List (Addr×Obj)) (s:Shared) (σ:St) (H:Hp) (E:Value->Shared->Prop),Inv X pins σ H s->(∀ b∈fp,aPz X pins H b)->tn i s.heap->J.stop i H ->
  wpAny (model P w) X.A (pyNext (.ref it)) (fun r s1=>r=none/\Inv X pins σ H s1) E s
 self:∀ (A:Around) (i:Nat) (s:Shared) (Q:Value->Shared->Prop) (E:Value->Shared->Prop),tn i s.heap->Q (.ref it) s->wpAny (model P w) A (pyIter (.ref it)) Q E s
noncomputable abbrev TI:=St->Hp->(It->Hp->Prop)->Prop
noncomputable def PIE (X:Cx) (pins:List (Addr×Obj)) (σ:St) (tg:Expr) (R:It->Hp->Prop) (itv:Value) (s2:Shared):Prop :=
 ∃ (it:Addr) (fp:List Addr) (tn:Nat->Heap->Prop) (J:It) (H':Hp),itv=.ref it/\Inv X pins σ H' s2/\bCf X.prog X.w X.K tg J fp it tn/\tn 0 s2.heap/\(∀ b∈fp,aPz X pins H' b)/\R J H'
noncomputable def PI (X:Cx) (tg iter:Expr) (wi:TI):Prop :=
 ∀ (pins:List (Addr×Obj)) (s:Shared) (σ:St) (H:Hp) (R:It->Hp->Prop),Inv X pins σ H s->wi σ H R ->
  wpAny (model X.prog X.w) X.A (eval iter X.env) (fun v s1=>wpAny (model X.prog X.w) X.A (pyIter v) (PIE X pins σ tg R) X.xe s1) X.xe s
theorem aT9 {M:Model} {A:Around} {E:Value->Shared->Prop} {s:Shared} {tg:Expr} {it:Addr} {u:Value} {o:Obj} {n:String} {vs:Array Value} {Q:Unit->Shared->Prop} (ho:s.heap.get? it=some o) (hc:o.cls=.type n) (hd:o.data=.fields vs)
    (hn:["enumerate","zip","dict_itemiterator","dict_reverseitemiterator","odict_iterator","itertools.zip_longest","itertools.pairwise"].contains n=false) (hQ:Q () s):wpAny M A (letOwnedTupleGo tg (.ref it) u) Q E s:=by
  unfold letOwnedTupleGo
  cases tg <;> first
    | exact wpAny_pure hQ
    | (cases u <;> first
        | exact wpAny_pure hQ
        | (refine wpAny_bind (wpAny_load ho ?_)
           rw [hc,hd]
           show wpAny M A (if (["enumerate","zip","dict_itemiterator","dict_reverseitemiterator","odict_iterator","itertools.zip_longest","itertools.pairwise"].contains n&&vs[0]?==some (rawInt _))=true then _ else _) Q E s
           rw [if_neg (by intro h; rw [hn,Bool.false_and] at h; cases h)]
           exact wpAny_pure hQ))
noncomputable def Itl (K:PySem.W.Frag) (a:Addr):It :=
 ⟨fun i H=>∃ xs x,SqL K H a xs/\xs[i]?=some x,fun i H x H'=>H'=H/\∀ xs,SqL K H a xs->xs[i]?=some x,fun i H=>∃ xs,SqL K H a xs/\xs.length<=i⟩
noncomputable def Itt (K:PySem.W.Frag) (a:Addr):It :=
 ⟨fun i H=>∃ xs x,SqT K H a xs/\xs[i]?=some x,fun i H x H'=>H'=H/\∀ xs,SqT K H a xs->xs[i]?=some x,fun i H=>∃ xs,SqT K H a xs/\xs.length<=i⟩
noncomputable def Itr (lo:Int) (n:Nat):It:=⟨fun i _=>i < n,fun i H x H'=>H'=H/\x=.int (lo+i),fun i _=>n<=i⟩
theorem aP5 {P:Program} {w:World} {K:PySem.W.Frag} {tg:Expr} (a it:Addr):bCf P w K tg (Itl K a) [it] it (fun i h=>h.IsListIter it a i) where
 mem:=by simp
 obj:=fun i h st b hb=>by
  have e:b=it:=by simpa using hb
  subst e
  obtain ⟨o,e,c,d⟩:=st
  exact ⟨o,e,fun v z=>by rw [d] at z; cases z⟩
 keep:=fun i h h' st k=>st.at fun o e=>k it (by simp) o e
 item:=by
  intro X hP hw hK hc i pins s σ H E I hf st hg
  subst hP hw hK
  obtain ⟨xs,x,hq,hx⟩:=hg
  obtain ⟨its,rv,p,hz⟩:=I.list hq
  obtain ⟨u,hu,ru⟩:=rv.get hx
  obtain ⟨f0,f1,f2,f3,f4,f5⟩:=hf it (by simp)
  refine wpAny_pyNext_list_item st p.isList (x:=u) (by simpa using hu) fun h' st' sb=>?_
  have I1:Inv X pins σ H { s with heap:=h' }:=I.turned (t':=s.toks) (fun b o hb e=>(sb.2 b hb).trans e) f0 f1 f3 f4 f5
  obtain ⟨o,e,c,d⟩:=id st'
  exact ⟨u,rfl,aT9 (s:={ s with heap:=h' }) e c d (by decide) ⟨x,H,I1,ru,⟨rfl,fun ys hy=>by rw [I.list_inj hy hq]; exact hx⟩,st',fun b hb=>(hf b hb).1⟩⟩
 done:=by
  intro X hP hw hK hc i pins s σ H E I hf st hg
  subst hP hw hK
  obtain ⟨xs,hq,hx⟩:=hg
  obtain ⟨its,rv,p,hz⟩:=I.list hq
  obtain ⟨f0,f1,f2,f3,f4,f5⟩:=hf it (by simp)
  have hl:=rv.length
  exact wpAny_pyNext_list_end (I.ok.hd hc) st p.isList (by simp; omega) fun h' eb=>⟨rfl,I.turned (t':=s.toks) (fun b o hb e=>eb b o hb e) f0 f1 f3 f4 f5⟩
 self:=fun _ _ _ _ _ st h=>wpAny_pyIter_listiter st h
theorem aO6 {P:Program} {w:World} {K:PySem.W.Frag} {tg:Expr} (a it:Addr):bCf P w K tg (Itt K a) [it] it (fun i h=>h.IsTupleIter it a i) where
 mem:=by simp
 obj:=fun i h st b hb=>by
  have e:b=it:=by simpa using hb
  subst e
  obtain ⟨o,e,c,d⟩:=st
  exact ⟨o,e,fun v z=>by rw [d] at z; cases z⟩
 keep:=fun i h h' st k=>st.at fun o e=>k it (by simp) o e
 item:=by
  intro X hP hw hK hc i pins s σ H E I hf st hg
  subst hP hw hK
  obtain ⟨xs,x,hq,hx⟩:=hg
  obtain ⟨its,rv,p,hz⟩:=I.tuple hq
  obtain ⟨u,hu,ru⟩:=rv.get hx
  obtain ⟨f0,f1,f2,f3,f4,f5⟩:=hf it (by simp)
  refine wpAny_pyNext_tuple_item st (show s.heap.IsTuple a its.toArray from p) (x:=u) (by simpa using hu) fun h' st' sb=>?_
  have I1:Inv X pins σ H { s with heap:=h' }:=I.turned (t':=s.toks) (fun b o hb e=>(sb.2 b hb).trans e) f0 f1 f3 f4 f5
  obtain ⟨o,e,c,d⟩:=id st'
  exact ⟨u,rfl,aT9 (s:={ s with heap:=h' }) e c d (by decide) ⟨x,H,I1,ru,⟨rfl,fun ys hy=>by rw [I.tuple_inj hy hq]; exact hx⟩,st',fun b hb=>(hf b hb).1⟩⟩
 done:=by
  intro X hP hw hK hc i pins s σ H E I hf st hg
  subst hP hw hK
  obtain ⟨xs,hq,hx⟩:=hg
  obtain ⟨its,rv,p,hz⟩:=I.tuple hq
  obtain ⟨f0,f1,f2,f3,f4,f5⟩:=hf it (by simp)
  have hl:=rv.length
  exact wpAny_pyNext_tuple_end (I.ok.hd hc) st (show s.heap.IsTuple a its.toArray from p) (by simp; omega) fun h' eb=>⟨rfl,I.turned (t':=s.toks) (fun b o hb e=>eb b o hb e) f0 f1 f3 f4 f5⟩
 self:=fun _ _ _ _ _ st h=>wpAny_pyIter_tupleiter st h
theorem aO8 {P:Program} {w:World} {K:PySem.W.Frag} {tg:Expr} (it:Addr) (lo:Int) (n:Nat):bCf P w K tg (Itr lo n) [it] it (fun i h=>IsRangeIter h it (lo+(i:Nat) * 1) ((n:Int) - (i:Nat)) 1) where
 mem:=by simp
 obj:=fun i h st b hb=>by
  have e:b=it:=by simpa using hb
  subst e
  exact ⟨_,st,fun v z=>by
   have z':Data.fields _=Data.cell v:=z
   cases z'⟩
 keep:=fun i h h' st k=>k it (by simp) _ st
 item:=by
  intro X hP hw hK hc i pins s σ H E I hf st hg
  subst hP hw hK
  obtain ⟨f0,f1,f2,f3,f4,f5⟩:=hf it (by simp)
  have W:=Walks.range (prog:=X.prog) (w:=X.w) (I.ok.hd hc) it lo 1 n
  refine W.item i s _ _ hg st fun v h' tk hv st' kk=>?_
  obtain ⟨t,rfl⟩:=hv
  have I1:Inv X pins σ H { s with heap:=h',toks:=tk }:=I.turned (fun b o hb e=>kk b o (by simpa using hb) e) f0 f1 f3 f4 f5
  refine ⟨_,rfl,aT9 (s:={ s with heap:=h',toks:=tk }) (n:="range_iterator") st' rfl rfl (by decide) ⟨.int (lo+i),H,I1,⟨t,?_⟩,⟨rfl,rfl⟩,st',fun b hb=>(hf b hb).1⟩⟩
  rw [Int.mul_one]
 done:=by
  intro X hP hw hK hc i pins s σ H E I hf st hg
  subst hP hw hK
  obtain ⟨f0,f1,f2,f3,f4,f5⟩:=hf it (by simp)
  exact wpAny_pyNext_range_end (I.ok.hd hc) st (by have:n<=i:=hg; omega) fun h' eb=>⟨rfl,I.turned (t':=s.toks) (fun b o hb e=>eb b o hb e) f0 f1 f3 f4 f5⟩
 self:=fun _ _ _ _ _ st h=>wpAny_pyIter_rangeiter st h
end L2
namespace L2
open PySem PySem.Spec PyProof.Rows
section
variable {X:Cx} {tg:Expr}
noncomputable def bBw (K:PySem.W.Frag) (tl:TE):TI:=fun σ H R=>tl σ H fun x H1=>∃ a,x=.ref a/\(∃ xs,SqL K H1 a xs)/\R (Itl K a) H1
noncomputable def iTup (K:PySem.W.Frag) (tl:TE):TI:=fun σ H R=>tl σ H fun x H1=>∃ a,x=.ref a/\(∃ xs,SqT K H1 a xs)/\R (Itt K a) H1
theorem aCb {l:Expr} {tl:TE} (hl:PE X l tl):PI X tg l (bBw X.K tl):=by
 intro pins s σ H R I h
 refine thn (hl pins s σ H _ I h) fun v s1 ⟨x,H1,I1,r1,q1⟩=>?_
 obtain ⟨a,e,⟨xs,hq⟩,q⟩:=q1
 subst e
 cases r1
 obtain ⟨its,rv,p,hz⟩:=I1.list hq
 refine wpAny_pyIter_list p.isList ?_
 refine ⟨s1.heap.objs.size,[s1.heap.objs.size],_,_,H1,rfl,I1.kept (t':=s1.toks) fun b o e=>Heap.get?_push_of_some _ e,aP5 a _,⟨_,Heap.get?_push_size _ rfl,rfl,rfl⟩,fun b hb=>?_,q⟩
 have e:b=s1.heap.objs.size:=by simpa using hb
 subst e
 exact I1.fpOk (Nat.le_refl _) (I1.hok.fresh (Nat.le_refl _))
theorem bAw {l:Expr} {tl:TE} (hl:PE X l tl):PI X tg l (iTup X.K tl):=by
 intro pins s σ H R I h
 refine thn (hl pins s σ H _ I h) fun v s1 ⟨x,H1,I1,r1,q1⟩=>?_
 obtain ⟨a,e,⟨xs,hq⟩,q⟩:=q1
 subst e
 cases r1
 obtain ⟨its,rv,p,hz⟩:=I1.tuple hq
 refine wpAny_pyIter_tuple (show s1.heap.IsTuple a its.toArray from p) ?_
 refine ⟨s1.heap.objs.size,[s1.heap.objs.size],_,_,H1,rfl,I1.kept (t':=s1.toks) fun b o e=>Heap.get?_push_of_some _ e,aO6 a _,⟨_,Heap.get?_push_size _ rfl,rfl,rfl⟩,fun b hb=>?_,q⟩
 have e:b=s1.heap.objs.size:=by simpa using hb
 subst e
 exact I1.fpOk (Nat.le_refl _) (I1.hok.fresh (Nat.le_refl _))
theorem aOd {pins:List (Addr×Obj)} {σ:St} {H:Hp} {s:Shared} {R:It->Hp->Prop} {E:Value->Shared->Prop} {lo hi:Int} {t u v:Tok} {tk:Nat} (I:Inv X pins σ H s) (h1:-(2 ^ 62)<=lo) (h2:lo < 2 ^ 62) (h3:-(2 ^ 62)<=hi) (h4:hi < 2 ^ 62)
  (q:R (Itr lo (hi - lo).toNat) H):wpAny (model X.prog X.w) X.A (pyIter (.ref s.heap.objs.size)) (PIE X pins σ tg R) E { s with heap:=s.heap.push { cls:=.type "range",data:=.fields #[.int lo t,.int hi u,.int 1 v] },toks:=tk }:=by
 refine wpAny_pyIter_range (IsRange.new ..) (small_one h1 h2 h3 h4) ?_
 have I1:Inv X pins σ H { s with heap:=s.heap.push { cls:=.type "range",data:=.fields #[.int lo t,.int hi u,.int 1 v] },toks:=tk }:=I.kept fun b o e=>Heap.get?_push_of_some _ e
 refine ⟨(s.heap.push { cls:=.type "range",data:=.fields #[.int lo t,.int hi u,.int 1 v] }).objs.size,[(s.heap.push { cls:=.type "range",data:=.fields #[.int lo t,.int hi u,.int 1 v] }).objs.size],_,_,H,rfl,
  I1.kept (t':=tk) fun b o e=>Heap.get?_push_of_some _ e,aO8 _ lo (hi - lo).toNat,?_,fun b hb=>?_,q⟩
 ·have e1:lo+((0:Nat):Int) * 1=lo:=by simp
  have e2:(((hi - lo).toNat:Nat):Int) - ((0:Nat):Int)=Builtin.Range.rangeSize lo hi 1:=by rw [rangeSize_one]; split <;> omega
  show IsRangeIter _ _ (lo+((0:Nat):Int) * 1) ((((hi - lo).toNat:Nat):Int) - ((0:Nat):Int)) 1
  rw [e1,e2]
  exact Heap.get?_push_size _ rfl
 ·have e:b=(s.heap.push { cls:=.type "range",data:=.fields #[.int lo t,.int hi u,.int 1 v] }).objs.size:=by simpa using hb
  subst e
  exact I1.fpOk (Nat.le_refl _) (I1.hok.fresh (Nat.le_refl _))
noncomputable def bBv (ta:TA):TI:=fun σ H R=>ta σ H fun vs H1=>∃ j:Int,vs=[.int j]/\-(2 ^ 62)<=j/\j < 2 ^ 62/\R (Itr 0 j.toNat) H1
noncomputable def bBu (ta:TA):TI:=fun σ H R=>ta σ H fun vs H1=>∃ i j:Int,vs=[.int i,.int j]/\(-(2 ^ 62)<=i/\i < 2 ^ 62/\-(2 ^ 62)<=j/\j < 2 ^ 62)/\R (Itr i (j - i).toNat) H1
theorem aDr {a:Expr} {ta:TA} {p pos:Pos} (hg:Gl X "range") (hm:X.mg "range"=none) (ha:PA X [a] ta) (hs:starEach [a] X.env=[(false,eval a X.env)]:=by rfl):PI X tg (.Call (.Name "range" p) [a] [] pos) (bBv ta):=by
 intro pins s σ H R I h
 refine Call_ (aLx I hg hm boot_range (PyProof.Rows.callWith_type1 (thn (ha pos pins s σ H _ I h) fun us s1 ⟨vs,H1,I1,r1,q1⟩=>?_) hs rfl))
 obtain ⟨j,e,q1,q2,q⟩:=q1
 subst e
 cases r1 with
 | cons r rr =>
  cases rr
  obtain ⟨t,rfl⟩:=r
  exact call_range_1 (aOd I1 (by omega) (by omega) q1 q2 (by simpa using q))
theorem aHv {a b:Expr} {ta:TA} {p pos:Pos} (hg:Gl X "range") (hm:X.mg "range"=none) (ha:PA X [a,b] ta) (hs:starEach [a,b] X.env=[(false,eval a X.env),(false,eval b X.env)]:=by rfl) (hs2:starEach [b] X.env=[(false,eval b X.env)]:=by rfl) :
  PI X tg (.Call (.Name "range" p) [a,b] [] pos) (bBu ta):=by
 intro pins s σ H R I h
 refine Call_ (aLx I hg hm boot_range (PyProof.Rows.callWith_type1 (thn (ha pos pins s σ H _ I h) fun us s1 ⟨vs,H1,I1,r1,q1⟩=>?_) (by rw [hs,hs2]) (by rw [hs2]; rfl)))
 obtain ⟨i,j,e,⟨q1,q2,q3,q4⟩,q⟩:=q1
 subst e
 cases r1 with
 | cons r rr =>
  cases rr with
  | cons r' rr =>
   cases rr
   obtain ⟨t,rfl⟩:=r
   obtain ⟨t',rfl⟩:=r'
   exact call_range_2 (aOd I1 q1 q2 q3 q4 q)
noncomputable def tFor (wi:TI) (g:TG) (tb:TS):TS:=fun D σ H=>wi σ H fun J H1=>∃ W:Nat->Nat->St->Hp->Prop,(∃ m,W 0 m σ H1)/\∀ i m σ H,W i m σ H ->
 (J.stop i H/\D.nx σ H)∨(J.go i H/\∃ N:St->Hp->Prop,(∀ σ' H',N σ' H'->∃ m',m' < m/\W (i+1) m' σ' H')/\∀ x H',J.yld i H x H'->g x σ H' fun σ2 H2=>tb { D with nx:=N,ct:=N,bk:=D.nx } σ2 H2)
noncomputable def aEe (fp:List Addr) (h:Heap):List (Addr×Obj):=fp.filterMap fun b=>(h.get? b).map fun o=>(b,o)
theorem aC3 {fp:List Addr} {h:Heap} {b:Addr} {o:Obj} (hb:b∈fp) (e:h.get? b=some o):(b,o)∈aEe fp h:=List.mem_filterMap.mpr ⟨b,hb,by rw [e]; rfl⟩
theorem aRh {fp:List Addr} {h:Heap} {p:Addr×Obj} (hp:p∈aEe fp h):p.1∈fp/\h.get? p.1=some p.2:=by
 obtain ⟨b,hb,e⟩:=List.mem_filterMap.mp hp
 cases q:h.get? b with
 | none=>rw [q] at e; cases e
 | some o =>
  rw [q] at e
  have e':(b,o)=p:=Option.some.inj e
  subst e'
  exact ⟨hb,q⟩
theorem Inv.pinned {pins:List (Addr×Obj)} {σ:St} {H:Hp} {s:Shared} {fp:List Addr} (I:Inv X pins σ H s) (hf:∀ b∈fp,aPz X pins H b) (ho:∀ b∈fp,∃ o,s.heap.get? b=some o/\∀ v,o.data≠.cell v):Inv X (pins++aEe fp s.heap) σ H s :=
 I.pins_of fun p hp=>(List.mem_append.mp hp).elim (fun z=>I.pin p (List.mem_append_right _ z)) fun z=>by
  obtain ⟨hb,e⟩:=aRh z
  obtain ⟨f0,f1,f2,_⟩:=hf p.1 hb
  obtain ⟨o,e',d⟩:=ho p.1 hb
  rw [e] at e'; cases e'
  exact ⟨e,f0,f1,f2,d⟩
theorem Inv.unpinned {pins pl:List (Addr×Obj)} {σ:St} {H:Hp} {s:Shared} (I:Inv X (pins++pl) σ H s):Inv X pins σ H s:=I.pins_of fun p hp=>I.pin p (List.mem_append_right _ (List.mem_append_left _ hp))
theorem aDq {iter:Expr} {body:List Stmt} {wi:TI} {g:TG} {tb:TS} {pos:Pos} (hp:PassesOwn (model X.prog X.w) X.A X.env X.xe) (hc:X.calm=true) (hi:PI X tg iter wi) (hg:PG X tg g) (hb:PSs X body tb)
  (hs:∀ x,foldedSetIterable iter X.env x=pure x:=by intro _; rfl):PS X (.For tg iter body [] pos) (tFor wi g tb):=by
 intro pins s σ H D I h
 refine wpAny_For (thn (hi pins s σ H _ I h) fun v s1 h1=>thn h1 fun itv s2 h2=>?_) hs
 obtain ⟨it,fp,tn,J,H2,e,I2,T,st2,f2,W,⟨m0,w0⟩,turn⟩:=h2
 subst e
 -- what stays true of the iterator's objects through the loop
 have stat:∀ {H':Hp},(∀ b∈fp,H' b=none)->∀ b∈fp,aPz X pins H' b:=fun hn b hb=>⟨hn b hb,(f2 b hb).2⟩
 refine codeAny_forLoop_any (fun n s'=>∃ i σ' H',Inv X pins σ' H' s'/\tn i s'.heap/\(∀ b∈fp,H' b=none)/\W i n σ' H') ?_ m0 ⟨0,σ,H2,I2,st2,fun b hb=>(f2 b hb).1,w0⟩
 rintro n s3 ⟨i,σ3,H3,I3,st3,fr3,w3⟩
 rcases turn i n σ3 H3 w3 with ⟨stop,qn⟩ | ⟨go,N,hN,step⟩
 ·refine wpAny_passesOwn hp (thn (T.done X rfl rfl rfl hc i pins s3 σ3 H3 X.xe I3 (stat fr3) st3 stop) fun r s4 ⟨hr,I4⟩=>?_)
  subst hr
  exact wpAny_execs_nil ⟨σ3,H3,I4,qn⟩
 ·refine wpAny_passesOwn hp (thn (T.item X rfl rfl rfl hc i pins s3 σ3 H3 X.xe I3 (stat fr3) st3 go) fun r s4 ⟨u,hr,h4⟩=>?_)
  subst hr
  refine wpAny_passesOwn hp (thn h4 fun _ s5 ⟨x,H5,I5,r5,y5,st5,fr5⟩=>?_)
  have I5':=I5.pinned (stat fr5) (T.obj _ _ st5)
  refine wpAny_passesOwn hp (thn (hg _ s5 σ3 H5 x u _ I5' r5 (step x H5 y5)) fun _ s6 ⟨σ6,H6,I6,q6⟩=>?_)
  refine wpAny_passesOwn hp (thn (hb _ s6 σ6 H6 _ I6 q6) fun f s7 q7=>?_)
  have again:∀ {σ7:St} {H7:Hp},Inv X (pins++aEe fp s5.heap) σ7 H7 s7->N σ7 H7->∃ m,m < n/\∃ i σ' H',Inv X pins σ' H' s7/\tn i s7.heap/\(∀ b∈fp,H' b=none)/\W i m σ' H':=fun {σ7 H7} I7 n7=>by
   obtain ⟨m',hm,w7⟩:=hN σ7 H7 n7
   refine ⟨m',hm,i+1,σ7,H7,I7.unpinned,T.keep _ _ _ st5 fun b hb o e=>(I7.pin (b,o) (List.mem_append_right _ (List.mem_append_right _ (aC3 hb e)))).1,fun b hb=>?_,w7⟩
   obtain ⟨o,e,d⟩:=T.obj _ _ st5 b hb
   exact (I7.pin (b,o) (List.mem_append_right _ (List.mem_append_right _ (aC3 hb e)))).2.1
  cases f with
  | next=>obtain ⟨σ7,H7,I7,n7⟩:=q7; exact again I7 n7
  | cont=>obtain ⟨σ7,H7,I7,n7⟩:=q7; exact again I7 n7
  | brk=>obtain ⟨σ7,H7,I7,q7⟩:=q7; exact ⟨σ7,H7,I7.unpinned,q7⟩
  | ret v=>obtain ⟨x7,σ7,H7,I7,r7,q7⟩:=q7; exact ⟨x7,σ7,H7,I7.unpinned,r7,q7⟩
end
theorem aUc {K:PySem.W.Frag} {a:Addr} {xs:List V} {g:TG} {tb:TS} {D:aEx} {σ:St} {H:Hp} (Pv:Nat->St->Hp->Prop) (h0:Pv 0 σ H) (hl:∀ i σ H,i<=xs.length->Pv i σ H->SqL K H a xs)
  (hs:∀ i x σ H,xs[i]?=some x->Pv i σ H->g x σ H fun σ2 H2=>tb { D with nx:=Pv (i+1),ct:=Pv (i+1),bk:=D.nx } σ2 H2) (hd:∀ σ H,Pv xs.length σ H->D.nx σ H) :
  ∃ W:Nat->Nat->St->Hp->Prop,(∃ m,W 0 m σ H)/\∀ i m σ H,W i m σ H ->
   ((Itl K a).stop i H/\D.nx σ H)∨((Itl K a).go i H/\∃ N:St->Hp->Prop,(∀ σ' H',N σ' H'->∃ m',m' < m/\W (i+1) m' σ' H')/\∀ x H',(Itl K a).yld i H x H'->g x σ H' fun σ2 H2=>tb { D with nx:=N,ct:=N,bk:=D.nx } σ2 H2):=by
 refine ⟨fun i m σ H=>m=xs.length - i/\i<=xs.length/\Pv i σ H,⟨xs.length,by simp,Nat.zero_le _,h0⟩,?_⟩
 rintro i m σ H ⟨rfl,hi,p⟩
 have q:=hl i σ H hi p
 by_cases hlt:i < xs.length
 ·refine .inr ⟨⟨xs,xs[i],q,by simp [hlt]⟩,Pv (i+1),fun σ' H' p'=>⟨xs.length - (i+1),by omega,rfl,hlt,p'⟩,fun x H' y=>?_⟩
  obtain ⟨e,y⟩:=y
  subst e
  exact hs i x σ _ (y xs q) p
 ·have e:i=xs.length:=by omega
  subst e
  exact .inl ⟨⟨xs,q,Nat.le_refl _⟩,hd σ H p⟩
theorem aXi {K:PySem.W.Frag} {a:Addr} {xs:List V} {g:TG} {tb:TS} {D:aEx} {σ:St} {H:Hp} (Pv:Nat->St->Hp->Prop) (h0:Pv 0 σ H) (hl:∀ i σ H,i<=xs.length->Pv i σ H->SqT K H a xs)
  (hs:∀ i x σ H,xs[i]?=some x->Pv i σ H->g x σ H fun σ2 H2=>tb { D with nx:=Pv (i+1),ct:=Pv (i+1),bk:=D.nx } σ2 H2) (hd:∀ σ H,Pv xs.length σ H->D.nx σ H) :
  ∃ W:Nat->Nat->St->Hp->Prop,(∃ m,W 0 m σ H)/\∀ i m σ H,W i m σ H ->
   ((Itt K a).stop i H/\D.nx σ H)∨((Itt K a).go i H/\∃ N:St->Hp->Prop,(∀ σ' H',N σ' H'->∃ m',m' < m/\W (i+1) m' σ' H')/\∀ x H',(Itt K a).yld i H x H'->g x σ H' fun σ2 H2=>tb { D with nx:=N,ct:=N,bk:=D.nx } σ2 H2):=by
 refine ⟨fun i m σ H=>m=xs.length - i/\i<=xs.length/\Pv i σ H,⟨xs.length,by simp,Nat.zero_le _,h0⟩,?_⟩
 rintro i m σ H ⟨rfl,hi,p⟩
 have q:=hl i σ H hi p
 by_cases hlt:i < xs.length
 ·refine .inr ⟨⟨xs,xs[i],q,by simp [hlt]⟩,Pv (i+1),fun σ' H' p'=>⟨xs.length - (i+1),by omega,rfl,hlt,p'⟩,fun x H' y=>?_⟩
  obtain ⟨e,y⟩:=y
  subst e
  exact hs i x σ _ (y xs q) p
 ·have e:i=xs.length:=by omega
  subst e
  exact .inl ⟨⟨xs,q,Nat.le_refl _⟩,hd σ H p⟩
theorem aR4 {lo:Int} {n:Nat} {g:TG} {tb:TS} {D:aEx} {σ:St} {H:Hp} (Pv:Nat->St->Hp->Prop) (h0:Pv 0 σ H)
  (hs:∀ i σ H,i < n->Pv i σ H->g (.int (lo+i)) σ H fun σ2 H2=>tb { D with nx:=Pv (i+1),ct:=Pv (i+1),bk:=D.nx } σ2 H2) (hd:∀ σ H,Pv n σ H->D.nx σ H) :
  ∃ W:Nat->Nat->St->Hp->Prop,(∃ m,W 0 m σ H)/\∀ i m σ H,W i m σ H ->
   ((Itr lo n).stop i H/\D.nx σ H)∨((Itr lo n).go i H/\∃ N:St->Hp->Prop,(∀ σ' H',N σ' H'->∃ m',m' < m/\W (i+1) m' σ' H')/\∀ x H',(Itr lo n).yld i H x H'->g x σ H' fun σ2 H2=>tb { D with nx:=N,ct:=N,bk:=D.nx } σ2 H2):=by
 refine ⟨fun i m σ H=>m=n - i/\i<=n/\Pv i σ H,⟨n,by simp,Nat.zero_le _,h0⟩,?_⟩
 rintro i m σ H ⟨rfl,hi,p⟩
 by_cases hlt:i < n
 ·refine .inr ⟨hlt,Pv (i+1),fun σ' H' p'=>⟨n - (i+1),by omega,rfl,hlt,p'⟩,fun x H' y=>?_⟩
  obtain ⟨e,y⟩:=y
  subst e y
  exact hs i σ _ hlt p
 ·have e:i=n:=by omega
  subst e
  exact .inl ⟨Nat.le_refl _,hd σ H p⟩
theorem aNs {c:TT} {tb:TS} {D:aEx} {σ:St} {H:Hp} (Pv:St->Hp->Prop) (μ:St->Hp->Nat) (h0:Pv σ H)
  (hs:∀ σ H,Pv σ H->c σ H fun b H1=>if b=true then tb { D with nx:=fun σ' H'=>Pv σ' H'/\μ σ' H' < μ σ H,ct:=fun σ' H'=>Pv σ' H'/\μ σ' H' < μ σ H,bk:=D.nx } σ H1 else D.nx σ H1)
  (mono:∀ σ H Q Q',(∀ b H1,Q b H1->Q' b H1)->c σ H Q->c σ H Q'):aP8 c tb D σ H:=by
 refine ⟨fun m σ H=>m=μ σ H/\Pv σ H,⟨_,rfl,h0⟩,?_⟩
 rintro m σ H ⟨rfl,p⟩
 refine mono σ H _ _ (fun b H1 q=>?_) (hs σ H p)
 cases b with
 | true=>exact ⟨_,fun σ' H' ⟨p',l⟩=>⟨_,l,rfl,p'⟩,q⟩
 | false=>exact q
end L2
namespace L2
open PySem PySem.Spec PyProof.Rows
noncomputable abbrev R2:=V->V->Hp->VK->Prop
noncomputable def OpR (X:Cx) (f:Value->Value->Sem Value) (r:R2):Prop :=
 ∀ (pins:List (Addr×Obj)) (s:Shared) (σ:St) (H:Hp) (x y:V) (v u:Value) (Q:VK),Inv X pins σ H s->aB6 x v->aB6 y u->r x y H Q ->
  wpAny (model X.prog X.w) X.A (f v u) (EP X pins σ Q) X.xe s
noncomputable def aDm (X:Cx) (f:Value) (r:List V->Hp->VK->Prop):Prop :=
 ∀ (pins:List (Addr×Obj)) (s:Shared) (σ:St) (H:Hp) (xs:List V) (us:List Value) (Q:VK),Inv X pins σ H s->aB0 xs us->r xs H Q ->
  wpAny (model X.prog X.w) X.A (call f us) (EP X pins σ Q) X.xe s
noncomputable def tOp (r:R2) (ta tb:TE):TE:=fun σ H Q=>ta σ H fun x H1=>tb σ H1 fun y H2=>r x y H2 Q
noncomputable def rI (C:Int->Int->Prop) (g:Int->Int->V):R2:=fun x y H Q=>∃ i j,x=.int i/\y=.int j/\C i j/\Q (g i j) H
noncomputable def rI0 (g:Int->Int->V):R2:=fun x y H Q=>∃ i j,x=.int i/\y=.int j/\Q (g i j) H
section
variable {X:Cx} {a b c:Expr} {ta tb tc:TE} {pos:Pos}
theorem binT (ha:PE X a ta) (hb:PE X b tb) {pins:List (Addr×Obj)} {s:Shared} {σ:St} {H:Hp} {R:V->V->Hp->Prop} (I:Inv X pins σ H s)
  (h:ta σ H fun x H1=>tb σ H1 fun y H2=>R x y H2) {Q:Value->Shared->Prop} {f:Value->Value->Sem Value}
  (hf:∀ v u s2 x y H2,Inv X pins σ H2 s2->aB6 x v->aB6 y u->R x y H2->wpAny (model X.prog X.w) X.A (f v u) Q X.xe s2) :
  wpAny (model X.prog X.w) X.A (eval a X.env) (fun v s₁=>wpAny (model X.prog X.w) X.A (eval b X.env) (fun u s₂=>wpAny (model X.prog X.w) X.A (f v u) Q X.xe s₂) X.xe s₁) X.xe s:=by
 refine thn (ha pins s σ H _ I h) fun v s1 ⟨x,H1,I1,r1,q1⟩=>?_
 refine thn (hb pins s1 σ H1 _ I1 q1) fun u s2 ⟨y,H2,I2,r2,q2⟩=>?_
 exact hf v u s2 x y H2 I2 r1 r2 q2
theorem aAj {op:Operator} {r:R2} (ho:OpR X (binaryOp op) r) (ha:PE X a ta) (hb:PE X b tb):PE X (.BinOp a op b pos) (tOp r ta tb):=by
 intro pins s σ H Q I h
 exact wpAny_BinOp (binT ha hb I h fun v u s2 x y H2 I2 rx ry q=>ho pins s2 σ H2 x y v u Q I2 rx ry q)
theorem opI {f:Value->Value->Sem Value} {C:Int->Int->Prop} {g:Int->Int->Int}
  (rule:∀ (i j:Int) (t u:Tok) (s:Shared) (Q:Value->Shared->Prop) (E:Value->Shared->Prop),C i j->Q (.int (g i j) s.toks) { s with toks:=s.toks+1 }->wpAny (model X.prog X.w) X.A (f (.int i t) (.int j u)) Q E s) :
  OpR X f (rI C fun i j=>.int (g i j)):=by
 intro pins s σ H x y v u Q I rx ry h
 obtain ⟨i,j,rfl,rfl,hc,q⟩:=h
 obtain ⟨t,rfl⟩:=rx
 obtain ⟨t',rfl⟩:=ry
 exact rule i j t t' s _ _ hc ⟨.int (g i j),H,I.tok _,⟨_,rfl⟩,q⟩
theorem opI0 {f:Value->Value->Sem Value} {g:Int->Int->Int}
  (rule:∀ (i j:Int) (t u:Tok) (s:Shared) (Q:Value->Shared->Prop) (E:Value->Shared->Prop),Q (.int (g i j) s.toks) { s with toks:=s.toks+1 }->wpAny (model X.prog X.w) X.A (f (.int i t) (.int j u)) Q E s) :
  OpR X f (rI0 fun i j=>.int (g i j)):=by
 intro pins s σ H x y v u Q I rx ry h
 obtain ⟨i,j,rfl,rfl,q⟩:=h
 obtain ⟨t,rfl⟩:=rx
 obtain ⟨t',rfl⟩:=ry
 exact rule i j t t' s _ _ ⟨.int (g i j),H,I.tok _,⟨_,rfl⟩,q⟩
theorem opB0 {f:Value->Value->Sem Value} {g:Int->Int->Bool}
  (rule:∀ (i j:Int) (t u:Tok) (s:Shared) (Q:Value->Shared->Prop) (E:Value->Shared->Prop),Q (.bool (g i j)) s->wpAny (model X.prog X.w) X.A (f (.int i t) (.int j u)) Q E s) :
  OpR X f (rI0 fun i j=>.bl (g i j)):=by
 intro pins s σ H x y v u Q I rx ry h
 obtain ⟨i,j,rfl,rfl,q⟩:=h
 obtain ⟨t,rfl⟩:=rx
 obtain ⟨t',rfl⟩:=ry
 exact rule i j t t' s _ _ ⟨.bl (g i j),H,I,rfl,q⟩
noncomputable def CPow (i j:Int):Prop:=0<=j/\j<=1000000/\i.natAbs < 2 ^ 64
noncomputable def CMul (i j:Int):Prop:=(-(2 ^ 64) < i/\i < 2 ^ 64)∨(-(2 ^ 64) < j/\j < 2 ^ 64)
theorem CMul.ok {i j:Int} (h:CMul i j):IntMulOk i j:=by
 rcases h with ⟨h1,h2⟩ | ⟨h1,h2⟩
 ·exact .of_left (intBits_le_64 h1 h2)
 ·exact .of_right (intBits_le_64 h1 h2)
theorem bBb:OpR X (binaryOp .Add) (rI0 fun i j=>.int (i+j)):=opI0 fun _ _ _ _ _ _ _ q=>add_int q
theorem aI8:OpR X (binaryOp .Sub) (rI0 fun i j=>.int (i - j)):=opI0 fun _ _ _ _ _ _ _ q=>sub_int q
theorem aA5:OpR X (binaryOp .Mod) (rI (fun _ j=>0 < j) fun i j=>.int (i % j)):=opI fun i j _ _ _ _ _ hc q=>by
 have h1:(0:Int) < j:=hc
 exact mod_int' (by omega) (by rw [Int.fmod_eq_emod_of_nonneg i (by omega)]; exact q)
theorem aWv:OpR X (binaryOp .Mod) (rI (fun _ j=>j≠0) fun i j=>.int (i.fmod j)):=opI fun _ _ _ _ _ _ _ hc q=>mod_int' hc q
theorem aQ8:OpR X (binaryOp .Pow) (rI CPow fun i j=>.int (i ^ j.toNat)):=opI fun _ _ _ _ _ _ _ hc q=>pow_int_small hc.1 hc.2.1 hc.2.2 q
end
noncomputable def scal:V->V->Bool
 | .non,.non=>true | .non,.int _=>true | .int _,.non=>true | .non,.bl _=>true | .bl _,.non=>true | .non,.str _=>true | .str _,.non=>true
 | .int _,.int _=>true | .bl _,.bl _=>true | .str _,.str _=>true | .byt _,.byt _=>true
 | .int _,.str _=>true | .str _,.int _=>true | .bl _,.str _=>true | .str _,.bl _=>true
 | _,_=>false
noncomputable def rEq:R2:=fun x y H Q=>scal x y=true/\Q (.bl (decide (x=y))) H
noncomputable def rNe:R2:=fun x y H Q=>scal x y=true/\Q (.bl (!decide (x=y))) H
theorem aKo {i j:Int}:decide (V.int i=V.int j)=(i==j):=by
 rw [Bool.eq_iff_iff]
 simp
theorem aVh {i j:Bool}:decide (V.bl i=V.bl j)=(i==j):=by
 rw [Bool.eq_iff_iff]
 simp
theorem aKn {i j:Str}:decide (V.str i=V.str j)=(i==j):=by
 rw [Bool.eq_iff_iff]
 simp
theorem aSe {i j:Array UInt8}:decide (V.byt i=V.byt j)=(i.toList==j.toList):=by
 rw [Bool.eq_iff_iff]
 cases i
 cases j
 simp
section
variable {X:Cx} {a b c:Expr} {ta tb tc:TE} {pos:Pos}
theorem aBl {pins:List (Addr×Obj)} {σ:St} {H:Hp} {s:Shared} {Q:VK} {k k':Bool} (I:Inv X pins σ H s) (q:Q (.bl k) H) (e:k=k'):EP X pins σ Q (.bool k') s:=by
 subst e
 exact ⟨.bl k,H,I,rfl,q⟩
theorem op_eq:OpR X (compareOp .Eq) rEq:=by
 intro pins s σ H x y v u Q I rx ry h
 obtain ⟨hs,q⟩:=h
 cases x with
 | non =>
  cases rx
  cases y with
  | non=>cases ry; exact PySem.EqNone.eq_none_none (aBl I q (by simp))
  | bl j=>cases ry; exact PySem.EqNone.eq_none_bool (aBl I q (by simp))
  | int j=>obtain ⟨t',rfl⟩:=ry; exact PySem.EqNone.eq_none_int (aBl I q (by simp))
  | str j=>obtain ⟨t',rfl⟩:=ry; exact PySem.EqNone.eq_none_str (aBl I q (by simp))
  | _=>exact absurd (show false=true from hs) Bool.false_ne_true
 | bl i =>
  cases rx
  cases y with
  | non=>cases ry; exact PySem.EqNone.eq_bool_none (aBl I q (by simp))
  | bl j=>cases ry; exact eq_bool (aBl I q aVh)
  | str j=>obtain ⟨t',rfl⟩:=ry; exact PySem.EqMixed.eq_bool_str (aBl I q (by simp))
  | _=>exact absurd (show false=true from hs) Bool.false_ne_true
 | int i =>
  obtain ⟨t,rfl⟩:=rx
  cases y with
  | non=>cases ry; exact PySem.EqNone.eq_int_none (aBl I q (by simp))
  | int j=>obtain ⟨t',rfl⟩:=ry; exact eq_int (aBl I q aKo)
  | str j=>obtain ⟨t',rfl⟩:=ry; exact PySem.EqMixed.eq_int_str (aBl I q (by simp))
  | _=>exact absurd (show false=true from hs) Bool.false_ne_true
 | str i =>
  obtain ⟨t,rfl⟩:=rx
  cases y with
  | non=>cases ry; exact PySem.EqNone.eq_str_none (aBl I q (by simp))
  | bl j=>cases ry; exact PySem.EqMixed.eq_str_bool (aBl I q (by simp))
  | int j=>obtain ⟨t',rfl⟩:=ry; exact PySem.EqMixed.eq_str_int (aBl I q (by simp))
  | str j=>obtain ⟨t',rfl⟩:=ry; exact eq_str (aBl I q aKn)
  | _=>exact absurd (show false=true from hs) Bool.false_ne_true
 | byt i =>
  obtain ⟨t,rfl⟩:=rx
  cases y with
  | byt j=>obtain ⟨t',rfl⟩:=ry; exact PySem.W.eq_bytes (aBl I q aSe)
  | _=>exact absurd (show false=true from hs) Bool.false_ne_true
 | _=>cases y <;> exact absurd (show false=true from hs) Bool.false_ne_true
theorem op_ne:OpR X (compareOp .NotEq) rNe:=by
 intro pins s σ H x y v u Q I rx ry h
 obtain ⟨hs,q⟩:=h
 cases x with
 | non =>
  cases rx
  cases y with
  | non=>cases ry; exact PySem.EqNone.ne_none_none (aBl I q (by simp))
  | bl j=>cases ry; exact PySem.EqNone.ne_none_bool (aBl I q (by simp))
  | int j=>obtain ⟨t',rfl⟩:=ry; exact PySem.EqNone.ne_none_int (aBl I q (by simp))
  | str j=>obtain ⟨t',rfl⟩:=ry; exact PySem.EqNone.ne_none_str (aBl I q (by simp))
  | _=>exact absurd (show false=true from hs) Bool.false_ne_true
 | bl i =>
  cases rx
  cases y with
  | non=>cases ry; exact PySem.EqNone.ne_bool_none (aBl I q (by simp))
  | bl j=>cases ry; exact ne_bool (aBl I q (congrArg not aVh))
  | str j=>obtain ⟨t',rfl⟩:=ry; exact PySem.EqMixed.ne_bool_str (aBl I q (by simp))
  | _=>exact absurd (show false=true from hs) Bool.false_ne_true
 | int i =>
  obtain ⟨t,rfl⟩:=rx
  cases y with
  | non=>cases ry; exact PySem.EqNone.ne_int_none (aBl I q (by simp))
  | int j=>obtain ⟨t',rfl⟩:=ry; exact ne_int (aBl I q (congrArg not aKo))
  | str j=>obtain ⟨t',rfl⟩:=ry; exact PySem.EqMixed.ne_int_str (aBl I q (by simp))
  | _=>exact absurd (show false=true from hs) Bool.false_ne_true
 | str i =>
  obtain ⟨t,rfl⟩:=rx
  cases y with
  | non=>cases ry; exact PySem.EqNone.ne_str_none (aBl I q (by simp))
  | bl j=>cases ry; exact PySem.EqMixed.ne_str_bool (aBl I q (by simp))
  | int j=>obtain ⟨t',rfl⟩:=ry; exact PySem.EqMixed.ne_str_int (aBl I q (by simp))
  | str j=>obtain ⟨t',rfl⟩:=ry; exact ne_str (aBl I q (congrArg not aKn))
  | _=>exact absurd (show false=true from hs) Bool.false_ne_true
 | byt i =>
  obtain ⟨t,rfl⟩:=rx
  cases y with
  | byt j=>obtain ⟨t',rfl⟩:=ry; exact PySem.W.ne_bytes (aBl I q (congrArg not aSe))
  | _=>exact absurd (show false=true from hs) Bool.false_ne_true
 | _=>cases y <;> exact absurd (show false=true from hs) Bool.false_ne_true
theorem aQ9:OpR X (compareOp .Lt) (rI0 fun i j=>.bl (decide (i < j))):=opB0 fun _ _ _ _ _ _ _ q=>lt_int q
theorem aF6:OpR X (compareOp .LtE) (rI0 fun i j=>.bl (decide (i<=j))):=opB0 fun _ _ _ _ _ _ _ q=>le_int q
theorem aJ8:OpR X (compareOp .Gt) (rI0 fun i j=>.bl (decide (j < i))):=opB0 fun _ _ _ _ _ _ _ q=>gt_int q
theorem aTr:OpR X (compareOp .GtE) (rI0 fun i j=>.bl (decide (j<=i))):=opB0 fun _ _ _ _ _ _ _ q=>ge_int q
theorem bA8:OpR X (compareOp .Is) (fun x y H Q=>y=.non/\Q (.bl (decide (x=.non))) H):=by
 intro pins s σ H x y v u Q I rx ry h
 obtain ⟨rfl,q⟩:=h
 cases ry
 refine is_none_gen (aBl I q ?_)
 cases x <;> first
  | (cases rx; rfl)
  | (obtain ⟨t,rfl⟩:=rx; rfl)
theorem aWt:OpR X (compareOp .IsNot) (fun x y H Q=>y=.non/\Q (.bl (!decide (x=.non))) H):=by
 intro pins s σ H x y v u Q I rx ry h
 obtain ⟨rfl,q⟩:=h
 cases ry
 refine isnot_none_gen (aBl I q ?_)
 cases x <;> first
  | (cases rx; rfl)
  | (obtain ⟨t,rfl⟩:=rx; rfl)
theorem OpR.or {f:Value->Value->Sem Value} {r r':R2} (h:OpR X f r) (h':OpR X f r'):OpR X f (fun x y H Q=>r x y H Q∨r' x y H Q):=by
 intro pins s σ H x y v u Q I rx ry q
 rcases q with q | q
 ·exact h pins s σ H x y v u Q I rx ry q
 ·exact h' pins s σ H x y v u Q I rx ry q
theorem aAo (b:Expr) {op:CmpOp} (h:op≠.In:=by decide) (h2:op≠.NotIn:=by decide):behindInMarks op b=false:=by
 have e1:(op==CmpOp.In)=false:=by cases op <;> first | rfl | exact absurd rfl h
 have e2:(op==CmpOp.NotIn)=false:=by cases op <;> first | rfl | exact absurd rfl h2
 cases b <;> simp [behindInMarks,e1,e2]
theorem aB3 {op:CmpOp} {r:R2} (ho:OpR X (compareOp op) r) (ha:PE X a ta) (hb:PE X b tb) (hm:behindInMarks op b=false):PE X (.Compare a [op] [b] pos) (tOp r ta tb):=by
 intro pins s σ H Q I h
 exact wpAny_Compare1 (binT ha hb I h fun v u s2 x y H2 I2 rx ry q=>ho pins s2 σ H2 x y v u Q I2 rx ry q) hm
noncomputable def aVv (t:TE):TT:=fun σ H Q=>t σ H fun x H'=>∃ k,x=.bl k/\Q k H'
theorem aAl {op:CmpOp} {r:R2} (ho:OpR X (compareOp op) r) (ha:PE X a ta) (hb:PE X b tb) (hm:behindInMarks op b=false):PT X (.Compare a [op] [b] pos) (aVv (tOp r ta tb)):=by
 intro pins s σ H Q I h
 refine wpAny_isTrue_Compare1 (thn (ha pins s σ H _ I h) fun v s1 ⟨x,H1,I1,r1,q1⟩=>thn (hb pins s1 σ H1 _ I1 q1) fun u s2 ⟨y,H2,I2,r2,q2⟩ =>
  thn (ho pins s2 σ H2 x y v u _ I2 r1 r2 q2) fun c s3 ⟨z,H3,I3,r3,k,e,q3⟩=>?_) hm
 subst e
 cases r3
 exact wpAny_truthy_bool ⟨H3,I3,q3⟩
noncomputable def aQd (r r':R2) (ta tb tc:TE):TE:=fun σ H Q=>ta σ H fun x H1=>tb σ H1 fun y H2=>r x y H2 fun z H3=>∃ k,z=.bl k /\
 (if k=true then tc σ H3 fun w' H4=>r' y w' H4 Q else Q (.bl false) H3)
theorem aG5 {op op':CmpOp} {r r':R2} (ho:OpR X (compareOp op) r) (ho':OpR X (compareOp op') r') (ha:PE X a ta) (hb:PE X b tb) (hc:PE X c tc)
  (hm:lastMarks [op,op'] [b,c]=false:=by with_unfolding_all rfl):PE X (.Compare a [op,op'] [b,c] pos) (aQd r r' ta tb tc):=by
 intro pins s σ H Q I h
 refine Compare_chain (thn (ha pins s σ H _ I h) fun v s1 ⟨x,H1,I1,r1,q1⟩=>chain_link (thn (hb pins s1 σ H1 _ I1 q1) fun u s2 ⟨y,H2,I2,r2,q2⟩ =>
  thn (ho pins s2 σ H2 x y v u _ I2 r1 r2 q2) fun d s3 ⟨z,H3,I3,r3,k,e,q3⟩=>?_)) hm
 subst e
 cases r3
 refine wpAny_truthy_bool ?_
 cases k with
 | false=>exact ite_ff ⟨.bl false,H3,I3,rfl,q3⟩
 | true=>exact ite_tt (chain_last (thn (hc pins s3 σ H3 _ I3 q3) fun w' s4 ⟨z',H4,I4,r4,q4⟩=>ho' pins s4 σ H4 y z' u w' Q I4 r2 r4 q4))
theorem aOi {op op':CmpOp} {r r':R2} (ho:OpR X (compareOp op) r) (ho':OpR X (compareOp op') r') (ha:PE X a ta) (hb:PE X b tb) (hc:PE X c tc)
  (hm:lastMarks [op,op'] [b,c]=false:=by with_unfolding_all rfl):PT X (.Compare a [op,op'] [b,c] pos) (aVv (aQd r r' ta tb tc)):=by
 intro pins s σ H Q I h
 refine isTrue_chain (thn (ha pins s σ H _ I h) fun v s1 ⟨x,H1,I1,r1,q1⟩=>test_link (thn (hb pins s1 σ H1 _ I1 q1) fun u s2 ⟨y,H2,I2,r2,q2⟩ =>
  thn (ho pins s2 σ H2 x y v u _ I2 r1 r2 q2) fun d s3 ⟨z,H3,I3,r3,k,e,q3⟩=>?_)) hm
 subst e
 cases r3
 refine wpAny_truthy_bool ?_
 cases k with
 | false =>
  obtain ⟨k',e',q'⟩:=q3
  cases e'
  exact ite_ff ⟨H3,I3,q'⟩
 | true =>
  refine ite_tt (test_last (thn (hc pins s3 σ H3 _ I3 q3) fun w' s4 ⟨z',H4,I4,r4,q4⟩=>thn (ho' pins s4 σ H4 y z' u w' _ I4 r2 r4 q4) fun d' s5 ⟨z2,H5,I5,r5,k2,e2,q5⟩=>?_))
  subst e2
  cases r5
  exact wpAny_truthy_bool ⟨H5,I5,q5⟩
theorem aLw:(sizeLine:Nat) < 2 ^ 63:=by rw [sizeLine_eq]; decide
theorem aPe:OpR X (binaryOp .Add) (fun x y H Q=>∃ i j,x=.str i/\y=.str j/\i.length+j.length<=sizeLine/\Q (.str (i++j)) H):=by
 intro pins s σ H x y v u Q I rx ry h
 obtain ⟨i,j,rfl,rfl,hz,q⟩:=h
 obtain ⟨t,rfl⟩:=rx
 obtain ⟨t',rfl⟩:=ry
 exact add_str (fun t' tk=>⟨.str (i++j),H,I.tok _,⟨_,rfl⟩,q⟩) hz
theorem aP2 {x:V} {us:List Value} (r:aB0 [x] us):∃ u,us=[u]/\aB6 x u:=by
 cases r with
 | cons r1 r2=>cases r2; exact ⟨_,rfl,r1⟩
theorem aYf {x y:V} {us:List Value} (r:aB0 [x,y] us):∃ u w',us=[u,w']/\aB6 x u/\aB6 y w':=by
 cases r with
 | cons r1 r2 =>
  cases r2 with
  | cons r3 r4=>cases r4; exact ⟨_,_,rfl,r1,r3⟩
theorem aUh:aDm X (.builtin "abs") (fun xs H Q=>∃ i,xs=[.int i]/\Q (.int (if i < 0 then -i else i)) H):=by
 intro pins s σ H xs us Q I r h
 obtain ⟨i,rfl,q⟩:=h
 obtain ⟨u,rfl,t,rfl⟩:=aP2 r
 exact call_abs_int fun u tk=>⟨.int (if i < 0 then -i else i),H,I.tok _,⟨_,rfl⟩,q⟩
theorem aSp (hc:X.calm=true):aDm X (.builtin "max") (fun xs H Q=>∃ i j,xs=[.int i,.int j]/\Q (.int (if j > i then j else i)) H):=by
 intro pins s σ H xs us Q I r h
 obtain ⟨i,j,rfl,q⟩:=h
 obtain ⟨u,w',rfl,⟨t,rfl⟩,⟨t',rfl⟩⟩:=aYf r
 refine max_two_ints (I.ok.hd hc) fun h' tk k=>⟨_,H,I.kept k,?_,q⟩
 by_cases hj:j > i
 ·rw [if_pos hj,if_pos hj]; exact ⟨_,rfl⟩
 ·rw [if_neg hj,if_neg hj]; exact ⟨_,rfl⟩
theorem aSo (hc:X.calm=true):aDm X (.builtin "min") (fun xs H Q=>∃ i j,xs=[.int i,.int j]/\Q (.int (if j < i then j else i)) H):=by
 intro pins s σ H xs us Q I r h
 obtain ⟨i,j,rfl,q⟩:=h
 obtain ⟨u,w',rfl,⟨t,rfl⟩,⟨t',rfl⟩⟩:=aYf r
 refine min_two_ints (I.ok.hd hc) fun h' tk k=>⟨_,H,I.kept k,?_,q⟩
 by_cases hj:j < i
 ·rw [if_pos hj,if_pos hj]; exact ⟨_,rfl⟩
 ·rw [if_neg hj,if_neg hj]; exact ⟨_,rfl⟩
theorem aSr:aDm X (.type "int") (fun xs H Q=>(∃ i,xs=[.int i]/\Q (.int i) H)∨∃ k,xs=[.bl k]/\Q (.int (if k then 1 else 0)) H):=by
 intro pins s σ H xs us Q I r h
 rcases h with ⟨i,rfl,q⟩ | ⟨k,rfl,q⟩
 ·obtain ⟨u,rfl,t,rfl⟩:=aP2 r
  exact call_int_int ⟨.int i,H,I,⟨_,rfl⟩,q⟩
 ·obtain ⟨u,rfl,r1⟩:=aP2 r
  cases r1
  exact call_int_bool ⟨.int (if k then 1 else 0),H,I.tok _,⟨_,rfl⟩,q⟩
noncomputable def LenV (K:PySem.W.Frag) (x:V) (H:Hp) (n:Nat):Prop :=
 match x with
 | .str y=>y.length<=sizeLine/\n=y.length
 | .byt y=>y.size<=sizeLine/\n=y.size
 | .ref p=>(∃ xs,SqL K H p xs/\n=xs.length)∨∃ xs,SqT K H p xs/\n=xs.length
 | _=>False
theorem aUg:aDm X (.builtin "len") (fun xs H Q=>∃ x n,xs=[x]/\LenV X.K x H n/\Q (.int n) H):=by
 intro pins s σ H xs us Q I r h
 obtain ⟨x,n,rfl,e,q⟩:=h
 obtain ⟨u,rfl,rx⟩:=aP2 r
 have hl:=aLw
 have hs:sizeLine=16777216:=sizeLine_eq
 cases x with
 | str y =>
  obtain ⟨t,rfl⟩:=rx
  obtain ⟨hy,e'⟩:y.length<=sizeLine/\n=y.length:=e
  subst e'
  exact len_str (by omega) ⟨.int _,H,I.tok _,⟨_,rfl⟩,q⟩
 | byt y =>
  obtain ⟨t,rfl⟩:=rx
  obtain ⟨hy,e'⟩:y.size<=sizeLine/\n=y.size:=e
  subst e'
  exact PySem.W.len_bytes (by omega) ⟨.int _,H,I.tok _,⟨_,rfl⟩,q⟩
 | ref p =>
  cases rx
  have e':(∃ xs,SqL X.K H p xs/\n=xs.length)∨∃ xs,SqT X.K H p xs/\n=xs.length:=e
  rcases e' with ⟨xs,hx,e'⟩ | ⟨xs,hx,e'⟩
  ·subst e'
   obtain ⟨its,r',pl,hz⟩:=I.list hx
   have hlen:=r'.length
   exact Calls.call_len_list pl.isList (by simp only [List.size_toArray]; omega) ⟨.int xs.length,H,I.tok _,⟨_,by simp only [List.size_toArray]; rw [hlen]⟩,q⟩
  ·subst e'
   obtain ⟨its,r',pl,hz⟩:=I.tuple hx
   have hlen:=r'.length
   exact len_tuple pl (by simp only [List.size_toArray]; omega) ⟨.int xs.length,H,I.tok _,⟨_,by simp only [List.size_toArray]; rw [hlen]⟩,q⟩
 | _=>exact (show False from e).elim
end
end L2
namespace L2
open PySem PySem.Spec PyProof.Rows
structure ObjM (h:Heap) (x dx C:Addr) (mA:Str->Option Value):Prop where
 obj:h.get? x=some (PySem.W.instObj C dx)
 ns:h.Ns1 dx mA
 ne:dx≠x
theorem aRn {h:Heap} {dx:Addr} {mA:Str->Option Value} (n:h.Ns1 dx mA):∃ od,h.get? dx=some od/\∀ name,PySem.W.lookIn name od=some (mA name):=by
 obtain ⟨o,es,ep,ho,hd,hk,_,hm⟩:=n
 refine ⟨o,ho,fun name=>?_⟩
 have e:=hm name
 unfold nsFind findBy at e
 rw [← Array.find?_toList] at e
 unfold PySem.W.lookIn
 rw [hd]
 dsimp only
 split
 ·rename_i y q
  rw [q] at e
  exact congrArg some e
 ·rename_i q
  rw [q] at e
  have a:es.toList.any (·.refKey)=false:=by
   rw [List.any_eq_false]
   intro y hy
   obtain ⟨z,t,hkey⟩:=hk y (Array.mem_toList_iff.mp hy)
   simp [DictEntry.refKey,hkey]
  have a':¬ es.toList.any (·.refKey)=true:=by rw [a]; exact Bool.false_ne_true
  rw [if_neg a']
  exact congrArg some e
theorem ObjM.look {h:Heap} {x dx C:Addr} {mA:Str->Option Value} (I:ObjM h x dx C mA):∃ od,PySem.W.InstAt h x (PySem.W.instObj C dx) C (some od)/\∀ name,PySem.W.lookIn name od=some (mA name) :=
 let ⟨od,ho,hl⟩:=aRn I.ns
 ⟨od,⟨I.obj,rfl,rfl,ho⟩,hl⟩
section
variable {prog:Program} {w:World} {A:Around} {E:Value -> Shared -> Prop} {s:Shared} {K:PySem.W.Frag} {x dx C f:Addr} {mA:Str -> Option Value} {name:Str} {v:Value}
end
theorem aO4.some_of {v:V} {o:Option Value} (r:aO4 (some v) o):∃ u,o=some u/\aB6 v u:=by
 cases o with
 | none=>exact (show False from r).elim
 | some u=>exact ⟨u,rfl,r⟩
section
variable {P:Program} {w:World} {H H':Hp} {h h':Heap} {a C dx:Addr} {fs fs':List (Str×V)}
theorem aXg (hok:HOk P w H h) (e:H a=some (.ins C dx fs)):∃ mA,ObjM h a dx C mA/\(∀ f,aO4 (fs.lookup f) (mA f))/\PySem.Within mA (fs.map (·.1))/\fs.length<=1000/\H dx=some (.own a):=by
 obtain ⟨d,z,ne,ob,mA,n,r,q⟩:=(show aCd P w H h a (.ins C dx fs) from hok a _ e)
 exact ⟨mA,⟨ob,n,ne⟩,r,q,z,d⟩
end
structure Cls (K:PySem.W.Frag) (C:Addr):Prop where
 pg:PySem.W.plainGet K C Str.empty=true
 hd:PySem.W.hasDictIn K C=true
 po:PySem.W.plainOver K C=true
 sa:PySem.W.findIn K (.ref C) "__setattr__"=some (some (.builtin "object.__setattr__"))
theorem Cls.get {K:PySem.W.Frag} {C:Addr} (c:Cls K C) (f:Str):PySem.W.plainGet K C f=true:=c.pg
section
variable {X:Cx} {pins:List (Addr×Obj)} {σ:St} {H:Hp} {s:Shared} {a C dx:Addr} {fs:List (Str×V)} {f:Str} {v:V} {A:Around} {E:Value -> Shared -> Prop}
end
section
variable {X:Cx} {o e value:Expr} {f:Str} {pos pos' tpos:Pos} {ta tv:TE}
end
section
variable {X:Cx} {pins:List (Addr×Obj)} {σ:St} {H:Hp} {s:Shared} {A:Around} {E:Value -> Shared -> Prop} {Q:Value -> Shared -> Prop} {c:Value} {b:Bool}
inductive aIm (K:PySem.W.Frag) (H:Hp):V->Value->Prop where
 | non:aIm K H .non (.type "NoneType")
 | bl (x:Bool):aIm K H (.bl x) (.type "bool")
 | int (i:Int):aIm K H (.int i) (.type "int")
 | str (x:Str):aIm K H (.str x) (.type "str")
 | flt (x:UInt64):aIm K H (.flt x) (.type "float")
 | lst {a:Addr} {xs:List V} (e:H a=some (.lst xs)):aIm K H (.ref a) (.type "list")
 | frz {a:Addr} {o:Obj} {xs:List V} (e:H a=some (.frz o (.lst xs))):aIm K H (.ref a) (.type "list")
 | tup {a:Addr} {xs:List V} (e:H a=some (.tup xs)):aIm K H (.ref a) (.type "tuple")
 | dK {a:Addr} {kvs:List (Key×V)} (e:H a=some (.dK kvs)):aIm K H (.ref a) (.type "dict")
 | dT {a:Addr} {kvs:List (List Key×V)} (e:H a=some (.dT kvs)):aIm K H (.ref a) (.type "dict")
 | ins {a C dx:Addr} {fs:List (Str×V)} (e:H a=some (.ins C dx fs)) (cl:Cls K C) (ha:PySem.W.findIn K (.ref C) "__class__"=some (some (.builtin "object.__class__")))
   (hn:PySem.W.specialIn K (.builtin "object.__class__") "__get__"=some (some (.builtin "getset_descriptor.__get__"))) (htk:PySem.W.takesIn K (.builtin "object.__class__")=some true)
   (hm:PySem.W.mroIn K C (.type "object")=some true):aIm K H (.ref a) (.ref C)
theorem aRy {x:V} {u t:Value} (I:Inv X pins σ H s) (rx:aB6 x u) (ty:aIm X.K H x t) (e:PySem.W.kitOne X.K t c=some b) (h:∀ tk,Q (.bool b) { s with toks:=tk }) :
  wpAny (model X.prog X.w) A (call (.builtin "isinstance") [u,c]) Q E s:=by
 cases ty with
 | non=>cases (show u=Value.none from rx); exact PySem.W.kia_one PySem.W.kitx_none I.kIn True.intro e (fun z=>nomatch z) h
 | bl y=>cases (show u=Value.bool y from rx); exact PySem.W.kia_one PySem.W.kitx_bool I.kIn True.intro e (fun z=>nomatch z) h
 | int i=>obtain ⟨t,q⟩:=(show ∃ t,u=Value.int i t from rx); cases q; exact PySem.W.kia_one PySem.W.kitx_int I.kIn True.intro e (fun z=>nomatch z) h
 | str y=>obtain ⟨t,q⟩:=(show ∃ t,u=Value.str y t from rx); cases q; exact PySem.W.kia_one PySem.W.kitx_str I.kIn True.intro e (fun z=>nomatch z) h
 | flt y=>obtain ⟨t,q⟩:=(show ∃ t,u=Value.float y t from rx); cases q; exact PySem.W.kia_one PySem.W.kitx_float I.kIn True.intro e (fun z=>nomatch z) h
 | @lst a xs ea =>
  cases (show u=Value.ref a from rx)
  obtain ⟨_,_,n,_,h1⟩:=(show aCd X.prog X.w H s.heap a (.lst xs) from I.hok a _ ea)
  exact PySem.W.kia_one PySem.W.kitx_list I.kIn ⟨_,h1,rfl⟩ e (fun z=>nomatch z) h
 | @frz a ob xs ea =>
  cases (show u=Value.ref a from rx)
  obtain ⟨_,_,_,n,_,h1⟩:=(show aCd X.prog X.w H s.heap a (.frz ob (.lst xs)) from I.hok a _ ea)
  exact PySem.W.kia_one PySem.W.kitx_list I.kIn ⟨_,h1,rfl⟩ e (fun z=>nomatch z) h
 | @tup a xs ea =>
  cases (show u=Value.ref a from rx)
  obtain ⟨_,_,_,p⟩:=(show aCd X.prog X.w H s.heap a (.tup xs) from I.hok a _ ea)
  obtain ⟨o,h1,h2,_⟩:=p
  exact PySem.W.kia_one PySem.W.kitx_tuple I.kIn ⟨o,h1,h2⟩ e (fun z=>nomatch z) h
 | @dK a kvs ea =>
  cases (show u=Value.ref a from rx)
  obtain ⟨_,_,vs,_,p⟩:=(show aCd X.prog X.w H s.heap a (.dK kvs) from I.hok a _ ea)
  obtain ⟨o,es,ep,h1,h2,_⟩:=p
  exact PySem.W.kia_one PySem.W.kitx_dict I.kIn ⟨o,h1,h2.1⟩ e (fun z=>nomatch z) h
 | @dT a kvs ea =>
  cases (show u=Value.ref a from rx)
  obtain ⟨_,_,xs,_,o,es,ep,h1,h2,_⟩:=(show aCd X.prog X.w H s.heap a (.dT kvs) from I.hok a _ ea)
  exact PySem.W.kia_one PySem.W.kitx_dict I.kIn ⟨o,h1,h2.1⟩ e (fun z=>nomatch z) h
 | @ins a C dx fs ea cl ha hn htk hm =>
  cases (show u=Value.ref a from rx)
  obtain ⟨mA,O,_⟩:=aXg I.hok ea
  obtain ⟨od,J,_⟩:=O.look
  exact PySem.W.kia_one (PySem.W.kitx_own (cl.get _) cl.hd ha hn htk hm) I.kIn J e (fun z=>nomatch z) h
end
end L2
namespace L2
open PySem PySem.Spec PyProof.Rows
structure aGu (k:Nat) (A:Around):Prop where
 hd:A.handled=none
 dp:A.depth+3 * k+5 < recursionLimit
 un:A.units+16 * k+200 < cLine
theorem aGu.mono {j k:Nat} {A:Around} (r:aGu k A) (h:j<=k):aGu j A:=⟨r.hd,by have:=r.dp; omega,by have:=r.un; omega⟩
theorem aGu.deeper {k:Nat} {A:Around} (r:aGu (k+1) A) (env:Env):aGu k (A.deeper env) :=
 ⟨r.hd,by have:=r.dp; show A.depth+1+3 * k+5 < _; omega,by have:=r.un; show A.units+3+16 * k+200 < _; omega⟩
theorem aGu.depth {k:Nat} {A:Around} (r:aGu k A):A.depth < recursionLimit:=by have:=r.dp; omega
theorem aGu.units {k:Nat} {A:Around} (r:aGu k A):A.units+64 < cLine:=by have:=r.un; omega
noncomputable def tNil:TA:=fun _ H Q=>Q [] H
noncomputable def aYr (ta:TE) (tr:TA):TA:=fun σ H Q=>ta σ H fun x H1=>tr σ H1 fun xs H2=>Q (x::xs) H2
section
variable {X:Cx} {e:Expr} {es:List Expr} {te:TE} {t:TA} {pos:Pos}
theorem aAc:PA X [] tNil:=fun _ _ _ _ H Q I h=>Calls.spliced_nil ⟨[],H,I,.nil,h⟩
theorem aAa (ha:PE X e te) (hr:PA X es t) (hs:starEach (e::es) X.env=(false,eval e X.env)::starEach es X.env:=by rfl):PA X (e::es) (aYr te t):=by
 intro pos pins s σ H Q I h
 rw [hs]
 show wpAny _ _ (spliced ((false,eval e X.env)::backTo pos (starEach es X.env))) _ _ s
 refine Calls.spliced_cons (thn (ha pins s σ H _ I h) fun u s1 ⟨x,H1,I1,r1,q1⟩=>?_)
 exact thn (hr pos pins s1 σ H1 _ I1 q1) fun us s2 ⟨xs,H2,I2,r2,q2⟩=>⟨x::xs,H2,I2,.cons r1 r2,q2⟩
noncomputable def tTup (t:TA):TE:=fun σ H Q=>t σ H fun xs H1=>xs.length<=sizeLine/\∀ p,H1 p=none->Q (.ref p) (upd H1 p (.tup xs))
noncomputable def tLst (t:TA):TE:=fun σ H Q=>t σ H fun xs H1=>xs.length<=sizeLine/\∀ p,H1 p=none->Q (.ref p) (upd H1 p (.lst xs))
theorem aBy {x1} (h:PA X es t):PE X (.Tuple es x1 pos) (tTup t):=by
 intro pins s σ H Q I hq
 refine wpAny_Tuple_spliced (thn (h pos pins s σ H _ I hq) fun us s1 ⟨xs,H1,I1,r,z,q⟩=>⟨by rw [← r.length]; exact z,?_⟩)
 have hf:H1 s1.heap.objs.size=none:=I1.hok.fresh (Nat.le_refl _)
 refine ⟨.ref s1.heap.objs.size,upd H1 s1.heap.objs.size (.tup xs),I1.laid (t':=s1.toks) (fun b u e=>Heap.get?_push_of_some _ e) (Nat.le_refl _) ?_,rfl,q _ hf⟩
 exact ⟨⟨z,_,Heap.get?_push_size _ rfl,rfl⟩,us,r,⟨_,Heap.get?_push_size _ rfl,rfl,_,rfl⟩⟩
theorem aA4 (h:PA X es t):PE X (.List es pos) (tLst t):=by
 intro pins s σ H Q I hq
 refine wpAny_List_spliced (thn (h pos pins s σ H _ I hq) fun us s1 ⟨xs,H1,I1,r,z,q⟩=>⟨by rw [← r.length]; exact z,?_⟩)
 have hf:H1 s1.heap.objs.size=none:=I1.hok.fresh (Nat.le_refl _)
 refine ⟨.ref s1.heap.objs.size,upd H1 s1.heap.objs.size (.lst xs),I1.laid (t':=s1.toks) (fun b u e=>Heap.get?_push_of_some _ e) (Nat.le_refl _) ?_,rfl,q _ hf⟩
 exact ⟨z,us,0,r,Heap.get?_push_size _ rfl⟩
end
noncomputable abbrev Sp:=List V->Hp->VK->XK->Prop
noncomputable abbrev CXT:=List Env->Hp->Shared->XK->Value->Shared->Prop
structure Env0 (P:Program) (w:World) (K:PySem.W.Frag) (mg:Str->Option Value) (base:Heap) (A:Around) (outer:List Env) (s:Shared) (H:Hp):Prop where
 frames:A.frames=some outer
 mod:Mod K mg base
 bs:∀ b o,base.get? b=some o->s.heap.get? b=some o/\H b=none
 bsz:base.objs.size<=s.heap.objs.size
 funs:s.heap.FunFrames base outer
 frf:∀ b∈frs outer,H b=none
 hok:HOk P w H s.heap
 bare:AllBare s.gens
noncomputable def CE (outer:List Env) (P:Program) (w:World) (H:Hp) (s:Shared) (Q:VK) (u:Value) (s':Shared):Prop :=
 ∃ v H',s'.os=s.os/\AllBare s'.gens/\Un (frs outer) [] H H' s.heap s'.heap/\HOk P w H' s'.heap/\aB6 v u/\Q v H'
noncomputable def CR (CX:CXT) (outer:List Env) (P:Program) (w:World) (H:Hp) (s:Shared) (Q:VK) (E:XK) (r:Result) (s':Shared):Prop :=
 match r with
 | .ok (.ret u)=>CE outer P w H s Q u s'
 | .ok _=>False
 | .error e=>CX outer H s E e s'
structure aNp (P:Program) (w:World) (K:PySem.W.Frag) (mg:Str->Option Value) (base:Heap) (CX:CXT) (k:Nat) (f:Addr) (fd:FuncData) (ps:List Str) (sp:Sp):Prop where
 len:∀ vs H Q E,sp vs H Q E->vs.length=ps.length
 run:∀ (A:Around) (outer:List Env) (s:Shared) (H:Hp) (args:Args) (us:List Value) (vs:List V) (Q:VK) (E:XK),aGu k A->Env0 P w K mg base A outer s H->BindsTo s fd args (ps.zip us)->aB0 vs us->sp vs H Q E ->
  codeAny (model P w) A (.call (.ref f) args) (CR CX outer P w H s Q E) s
theorem aNp.mono {P:Program} {w:World} {K:PySem.W.Frag} {mg:Str->Option Value} {base:Heap} {CX:CXT} {j k:Nat} {f:Addr} {fd:FuncData} {ps:List Str} {sp:Sp} (F:aNp P w K mg base CX j f fd ps sp) (h:j<=k) :
  aNp P w K mg base CX k f fd ps sp:=⟨F.len,fun A outer s H args us vs Q E hr=>F.run A outer s H args us vs Q E (hr.mono h)⟩
section
variable {X:Cx} {pins:List (Addr×Obj)} {σ:St} {H:Hp} {s s':Shared}
theorem Inv.env0 (I:Inv X pins σ H s):Env0 X.prog X.w X.K X.mg X.base X.A X.stack s H :=
 ⟨I.ok.frames,I.ok.mod,I.bs,Nat.le_trans I.ok.bsz I.sz,I.stack,I.stkFree,I.hok,I.bare⟩
theorem Inv.after {Q:VK} {u:Value} (I:Inv X pins σ H s) (h:CE X.stack X.prog X.w H s Q u s'):EP X pins σ Q u s':=by
 obtain ⟨v,H',os,bare,un,hok,r,q⟩:=h
 obtain ⟨hh,g,d,t,os'⟩:=s'
 obtain rfl:os'=s.os:=os
 exact ⟨v,H',I.call (h':=hh) (g':=g) (d':=d) (t':=t) (ch:=[]) un hok bare (fun b z=>absurd z (by simp)),r,q⟩
end
noncomputable def aS5 (sp:Sp) (dvs:List V) (E:XK) (t:TA):TE:=fun σ H Q=>t σ H fun vs H1=>sp (vs++dvs) H1 Q E
noncomputable def aKt (K:PySem.W.Frag) (fd:FuncData) (ps:List Str) (ds:List Value):Prop :=
 ∀ (s:Shared) (us:List Value),K.In s.heap->(us++ds).length=ps.length->BindsTo s fd ⟨us,[]⟩ (ps.zip (us++ds))
theorem aKt.all {K:PySem.W.Frag} {fd:FuncData} {ps:List Str} (h:∀ us:List Value,us.length=ps.length->bindArgs fd ⟨us,[]⟩=pure (ps.zip us)):aKt K fd ps []:=fun s us _ hl=>by
 rw [List.append_nil] at hl ⊢
 exact .of_eq (h us hl)
noncomputable def aIj (CX:CXT) (X:Cx) (E:XK):Prop:=∀ (pins:List (Addr×Obj)) (σ:St) (H:Hp) (s:Shared) (e:Value) (s':Shared),Inv X pins σ H s->CX X.stack H s E e s'->X.xe e s'
section
variable {X:Cx} {CX:CXT} {k:Nat} {f C:Addr} {fd:FuncData} {ps:List Str} {sp:Sp} {dvs:List V} {ds:List Value} {E:XK} {x m:Str} {p pos apos:Pos} {e o:Expr} {es:List Expr} {ta:TE} {t:TA}
theorem aY0 {pins:List (Addr×Obj)} {σ:St} {H:Hp} {s:Shared} {Q:VK} {us:List Value} {vs:List V} (F:aNp X.prog X.w X.K X.mg X.base CX k f fd ps sp) (hr:aGu k X.A) (hb:aKt X.K fd ps ds) (hd:aB0 dvs ds) (hx:aIj CX X E)
  (I:Inv X pins σ H s) (r:aB0 vs us) (h:sp (vs++dvs) H Q E):wpAny (model X.prog X.w) X.A (call (.ref f) us) (EP X pins σ Q) X.xe s:=by
 have r2:aB0 (vs++dvs) (us++ds):=r.append hd
 have hl:(us++ds).length=ps.length:=by rw [← r2.length]; exact F.len _ _ _ _ h
 refine wpAny_call (codeAny_mono (F.run X.A X.stack s H ⟨us,[]⟩ (us++ds) (vs++dvs) Q E hr I.env0 (hb s us I.kIn hl) r2 h) fun r s' hq=>?_)
 cases r with
 | error e=>exact hx pins σ H s e s' I hq
 | ok fl =>
  cases fl with
  | ret u=>exact I.after hq
  | next=>exact False.elim hq
  | brk=>exact False.elim hq
  | cont=>exact False.elim hq
theorem aQ4 (F:aNp X.prog X.w X.K X.mg X.base CX k f fd ps sp) (hr:aGu k X.A) (hg:Gl X x) (hm:X.mg x=some (.ref f)) (hk:PySem.W.keepIn X.K (.ref f)=true) (hb:aKt X.K fd ps ds) (hd:aB0 dvs ds) (hx:aIj CX X E)
  (ha:PA X (e::es) t) (hdb:(x==("__debug__":Str))=false:=by decide) (he:starEach (e::es) X.env=(false,eval e X.env)::starEach es X.env:=by rfl) (hpl:(backTo pos (starEach es X.env)).any (·.1)=false:=by rfl) :
  PE X (.Call (.Name x p) (e::es) [] pos) (aS5 sp dvs E t):=by
 intro pins s σ H Q I h
 refine wpAny_Call_Name_kw (aH3 I hg hm ?_ hdb)
 refine PySem.W.callWith_K (h₀:=X.base) I.ok.mod.kin hk (thn (ha pos pins s σ H _ I h) fun us s1 ⟨vs,H1,I1,r,q⟩=>⟨I1.kIn,?_⟩) he hpl
 exact aY0 F hr hb hd hx I1 r q
end
section
variable {X:Cx} {CX:CXT} {k:Nat} {f C:Addr} {fd:FuncData} {ps ks:List Str} {sp:Sp} {E:XK} {x m:Str} {p pos apos kpos:Pos} {e o:Expr} {es:List Expr} {kws:List Keyword} {te ta:TE} {t tk:TA} {nm:Option Str}
variable {g:List Value -> List Value -> List Value} {gV:List V -> List V -> List V}
end
structure aAv (N P:List Str) (sc:Scope):Prop where
 kind:sc.kind=.function
 co:sc.isCoroutine=false
 gen:sc.isGenerator=false
 nd:N.Nodup
 pre:N.take P.length=P
 par:∀ x∈P,sc.names.lookup x=some .local∨sc.names.lookup x=some .cell
 nofree:∀ y∈sc.names,y.2≠.free
theorem aMc {kindOf:Str->Option NameKind} {x:Str}:∀ {binds:List (Str×Value)} {m:Str->Option Value},(∀ v,(x,v)∉binds)->bindL kindOf binds m x=m x
 | [],_,_=>rfl
 | (n,v)::r,m,h=>by
  unfold bindL
  rw [aMc fun w hw=>h w (List.mem_cons_of_mem _ hw)]
  split
  ·have:x≠n:=by rintro rfl; exact h v List.mem_cons_self
   simp [this]
  ·rfl
theorem aMe {kindOf:Str->Option NameKind} {x:Str}:∀ {binds:List (Str×Value)} {m:Str->Option Value},(∀ v,(x,v)∉binds)->bindC kindOf binds m x=m x
 | [],_,_=>rfl
 | (n,v)::r,m,h=>by
  unfold bindC
  rw [aMe fun w hw=>h w (List.mem_cons_of_mem _ hw)]
  split
  ·rfl
  ·have:x≠n:=by rintro rfl; exact h v List.mem_cons_self
   simp [this]
theorem aMd {kindOf:Str->Option NameKind} {x:Str} {v:Value}:∀ {P:List Str} {vs:List Value} {i:Nat} {m:Str->Option Value},P.Nodup->P[i]?=some x->vs[i]?=some v->kindOf x=some .local ->
  bindL kindOf (P.zip vs) m x=some v
 | [],_,_,_,_,h,_,_=>by simp at h
 | _::_,[],_,_,_,_,h,_=>by simp at h
 | p::P,w::vs,0,m,nd,h1,h2,hk=>by
  simp at h1 h2; subst h1; subst h2
  show bindL kindOf ((p,w)::P.zip vs) m p=_
  unfold bindL
  rw [aMc fun v hv=>(List.nodup_cons.mp nd).1 (List.of_mem_zip hv).1,if_pos hk]
  simp
 | p::P,w::vs,i+1,m,nd,h1,h2,hk=>by
  show bindL kindOf ((p,w)::P.zip vs) m x=_
  unfold bindL
  exact aMd (i:=i) (List.nodup_cons.mp nd).2 (by simpa using h1) (by simpa using h2) hk
theorem aMf {kindOf:Str->Option NameKind} {x:Str} {v:Value}:∀ {P:List Str} {vs:List Value} {i:Nat} {m:Str->Option Value},P.Nodup->P[i]?=some x->vs[i]?=some v->kindOf x≠some .local ->
  bindC kindOf (P.zip vs) m x=some v
 | [],_,_,_,_,h,_,_=>by simp at h
 | _::_,[],_,_,_,_,h,_=>by simp at h
 | p::P,w::vs,0,m,nd,h1,h2,hk=>by
  simp at h1 h2; subst h1; subst h2
  show bindC kindOf ((p,w)::P.zip vs) m p=_
  unfold bindC
  rw [aMe fun v hv=>(List.nodup_cons.mp nd).1 (List.of_mem_zip hv).1,if_neg hk]
  simp
 | p::P,w::vs,i+1,m,nd,h1,h2,hk=>by
  show bindC kindOf ((p,w)::P.zip vs) m x=_
  unfold bindC
  exact aMf (i:=i) (List.nodup_cons.mp nd).2 (by simpa using h1) (by simpa using h2) hk
noncomputable def aIn (N:List Str) (vs:List V):St:=vs.map some++List.replicate (N.length - vs.length) none
noncomputable def aPy (CX:CXT) (P:Program) (w:World) (K:PySem.W.Frag) (mg:Str->Option Value) (base:Heap) (N:List Str) (qual:Str) (scope:Scope) (f:Addr) (cd:Value) (A:Around) (outer:List Env) (s:Shared) (H:Hp) (E:XK):Cx where
 prog:=P
 w:=w
 K:=K
 mg:=mg
 base:=base
 A:=A.deeper (envOfC qual scope s.heap.objs.size f cd)
 N:=N
 s₀:=s
 H₀:=H
 env:=envOfC qual scope s.heap.objs.size f cd
 outer:=outer
 stack:=envOfC qual scope s.heap.objs.size f cd::outer
 ex:=[]
 calm:=true
 fn:=fun _=>true
 pn:=[]
 xe:=fun e s'=>wpAny (model P w) (A.deeper (envOfC qual scope s.heap.objs.size f cd)) (leaving (envOfC qual scope s.heap.objs.size f cd) e) (fun _ s''=>CX outer H s E e s'') (fun e' s''=>CX outer H s E e' s'') s'
theorem aOy {sc:Scope} {n:Nat} {x:Str} (h:sc.names.lookup x=some .cell):∃ c,(cellsFrom n sc.names []).lookup x=some c:=by
 have q:=PySem.W.cellsFrom_some sc.names n [] (.inl h)
 exact Option.isSome_iff_exists.mp q
theorem aRz {CX:CXT} {P:Program} {w:World} {K:PySem.W.Frag} {mg:Str->Option Value} {base:Heap} {N ps:List Str} {qual:Str} {scope:Scope} {f:Addr} {cd:Value} {A:Around} {outer:List Env} {s s1:Shared} {H:Hp} {E:XK} {us:List Value} {vs:List V}
  (S:aAv N ps scope) (hd:A.handled=none) (e0:Env0 P w K mg base A outer s H) (hl:vs.length=ps.length) (r:aB0 vs us)
  (x:InCallC s s.heap.objs.size (bindL (envOfC qual scope s.heap.objs.size f cd).kindOf (ps.zip us) fun _=>none) (cellsFrom (s.heap.objs.size+1) scope.names []) (bindC (envOfC qual scope s.heap.objs.size f cd).kindOf (ps.zip us) fun _=>none) s1) :
  Inv (aPy CX P w K mg base N qual scope f cd A outer s H E) [] (aIn N vs) H s1:=by
 have hpl:ps.length<=N.length:=by have:=congrArg List.length S.pre; rw [List.length_take] at this; omega
 obtain ⟨h1,tk,rfl,hk⟩:=x.done
 have noA:∀ b:Addr,b∉(aPy CX P w K mg base N qual scope f cd A outer s H E).ex:=fun b z=>absurd (show b∈([]:List Addr) from z) (by simp)
 refine ⟨⟨e0.mod,S.kind,rfl,rfl,Nat.le_refl _,fun y z c h1 h2=>?_,fun y hy=>?_,fun y c _ h=>?_,fun _=>hd,Around.frames_deeper e0.frames,.inr ⟨rfl,rfl⟩,fun b z=>absurd z (noA b),e0.bs,e0.bsz,fun b _ _=>noA b,fun b z=>absurd z (noA b),e0.funs,e0.frf⟩,
  rfl,e0.bare,Un.kept hk,⟨_,x.toInCall.ns,fun i y v h1 h2 h3=>?_⟩,fun y c h=>⟨_,x.cell y c h⟩,e0.hok.fresh (Nat.le_refl _),fun y c h=>?_,fun p hp=>absurd (show p∈([]:List (Addr×Obj)) from hp) (by simp),e0.hok.kept hk,?_⟩
 ·exact name_of_addr x.apart (PySem.mem_of_lookup h1) (PySem.mem_of_lookup h2)
 ·have hy:scope.names.lookup y=some .cell∨scope.names.lookup y=some .free:=hy
  rcases hy with hy | hy
  ·exact aOy hy
  ·exact absurd rfl (S.nofree _ (PySem.mem_of_lookup hy))
 ·exact Nat.le_of_lt (x.above y c (PySem.mem_of_lookup h))
 ·have hi:i < vs.length:=by
   unfold aIn at h2
   by_cases hi:i < vs.length
   ·exact hi
   ·rw [List.getElem?_append_right (by simpa using hi)] at h2
    rw [List.getElem?_replicate] at h2
    split at h2 <;> cases h2
  have ha:vs[i]?=some v:=by
   unfold aIn at h2
   rw [List.getElem?_append_left (by simpa using hi),List.getElem?_map] at h2
   cases e:vs[i]? with
   | none=>rw [e] at h2; cases h2
   | some a=>rw [e] at h2; cases h2; rfl
  obtain ⟨u,hu,rv⟩:=r.get ha
  have hp:ps[i]?=some y:=by
   rw [← S.pre,List.getElem?_take_of_lt (by omega)]; exact h1
  have ndP:ps.Nodup:=by rw [← S.pre]; exact S.nd.sublist (List.take_sublist _ _)
  refine ⟨u,rv,?_⟩
  rcases S.par y (List.mem_of_getElem? hp) with k | k
  ·exact .inl ⟨k,aMd ndP hp hu k⟩
  ·obtain ⟨c,e⟩:=aOy (n:=s.heap.objs.size+1) k
   refine .inr ⟨.inl k,c,e,?_⟩
   have q:=x.cell y c e
   rw [aMf ndP hp hu (by show scope.names.lookup y≠_; rw [k]; decide)] at q
   exact q
 ·exact e0.hok.fresh (Nat.le_of_lt (x.above y c (PySem.mem_of_lookup h)))
 ·unfold aIn
  show _=N.length
  rw [List.length_append,List.length_map,List.length_replicate]
  omega
theorem aXk {CX:CXT} {P:Program} {w:World} {K:PySem.W.Frag} {mg:Str->Option Value} {base:Heap} {k:Nat} {f:Addr} {name qual:Str} {params:Arguments} {body:List Stmt} {scope:Scope} {dV kV doc pm cdv ct oc:Value} {an od:Option Addr}
  {osl:Array (Option Value)} {N ps:List Str} {sp:Sp} (lk:K.lookup f=some ⟨oc,od,.func (PySem.W.fnOf name qual params body scope dV kV doc pm an cdv ct),osl⟩) (hcd:PySem.W.codeIn K cdv qual=true) (S:aAv N ps scope)
  (len:∀ vs H Q E,sp vs H Q E->vs.length=ps.length)
  (hbody:∀ (A:Around) (outer:List Env) (s:Shared) (H:Hp) (vs:List V) (Q:VK) (E:XK),aGu k (A.deeper (envOfC qual scope s.heap.objs.size f cdv))->sp vs H Q E ->
   ∃ t,PSs (aPy CX P w K mg base N qual scope f cdv A outer s H E) body t/\t { nx:=fun _ H'=>Q .non H',rt:=Q } (aIn N vs) H) :
  aNp P w K mg base CX (k+1) f (PySem.W.fnOf name qual params body scope dV kV doc pm an cdv ct) ps sp:=by
 refine ⟨len,fun A outer s H args us vs Q E hr e0 hb r hsp=>?_⟩
 have hl:=len _ _ _ _ hsp
 have KX:K.In s.heap:=e0.mod.kin.keeps fun b o e=>(e0.bs b o e).1
 have lim:s.heap.NoLimit:=e0.mod.nolimit.keeps fun b o e=>(e0.bs b o e).1
 have hkind:∀ y∈ps.zip us,scope.names.lookup y.1=some .local∨(scope.names.lookup y.1=some .cell/\((cellsFrom (s.heap.objs.size+1) scope.names []).lookup y.1).isSome=true):=fun ⟨n,v⟩ hy=>by
  rcases S.par n (List.of_mem_zip hy).1 with q | q
  ·exact .inl q
  ·exact .inr ⟨q,PySem.W.cellsFrom_some _ _ _ (.inl q)⟩
 refine codeAny_call_function hr.depth (KX _ _ lk) rfl S.co S.gen rfl (PySem.W.codeRec_of KX hcd) (hb _ _ _ _ ?_)
 refine wpAny_newFunctionEnv_cells S.kind hkind fun env he s1 x=>?_
 subst he
 refine ⟨lim.keeps x.toInCall.keep,codeAny_func ?_⟩
 obtain ⟨t,ht,hq⟩:=hbody A outer s H vs Q E (hr.deeper _) hsp
 have I:Inv (aPy CX P w K mg base N qual scope f cdv A outer s H E) [] (aIn N vs) H s1:=aRz S hr.hd e0 hl r x
 refine wpAny_mono (ht [] s1 (aIn N vs) H _ I hq) (fun fl s' hs=>?_) fun e s' hs=>hs
 have fin:∀ {σ':St} {H':Hp} {v:V} {u:Value},Inv (aPy CX P w K mg base N qual scope f cdv A outer s H E) [] σ' H' s'->aB6 v u->Q v H'->CE outer P w H s Q u s' :=
  fun {σ' H' v u} J rv q=>⟨v,H',J.os,J.bare,J.base,J.hok,rv,q⟩
 cases fl with
 | ret u =>
  obtain ⟨v,σ',H',J,rv,q⟩:=hs
  exact fin J rv q
 | next =>
  obtain ⟨σ',H',J,q⟩:=hs
  exact fin (v:=V.non) (u:=Value.none) J rfl q
 | brk =>
  obtain ⟨_,_,_,q⟩:=hs
  exact False.elim q
 | cont =>
  obtain ⟨_,_,_,q⟩:=hs
  exact False.elim q
end L2
namespace L2
open PySem PySem.Spec PyProof.Rows
section
variable {X:Cx} {x:Str} {p pos:Pos} {e:Expr} {es:List Expr} {t:TA} {id T:String} {r:List V -> Hp -> VK -> Prop}
noncomputable def tCB (r:List V->Hp->VK->Prop) (t:TA):TE:=fun σ H Q=>t σ H fun vs H1=>r vs H1 Q
theorem aAk (hc:aDm X (.builtin id) r) (hg:Gl X x) (hm:X.mg x=none) (hv:bootBuiltins x=some (.builtin id)) (ha:PA X (e::es) t) (hn:x≠"__name__":=by decide) (hdb:(x==("__debug__":Str))=false:=by decide)
  (he:starEach (e::es) X.env=(false,eval e X.env)::starEach es X.env:=by rfl) (hpl:(backTo pos (starEach es X.env)).any (·.1)=false:=by rfl):PE X (.Call (.Name x p) (e::es) [] pos) (tCB r t):=by
 intro pins s σ H Q I h
 refine wpAny_Call_Name_kw (aLx I hg hm hv ?_ hn hdb)
 exact PyProof.Rows.callWith_builtin1 (thn (ha pos pins s σ H _ I h) fun us s1 ⟨vs,H1,I1,r1,q1⟩=>hc pins s1 σ H1 vs us Q I1 r1 q1) he hpl
theorem aA8 (hc:aDm X (.type T) r) (hg:Gl X x) (hm:X.mg x=none) (hv:bootBuiltins x=some (.type T)) (ha:PA X (e::es) t) (hn:x≠"__name__":=by decide) (hdb:(x==("__debug__":Str))=false:=by decide)
  (he:starEach (e::es) X.env=(false,eval e X.env)::starEach es X.env:=by rfl) (hpl:(backTo pos (starEach es X.env)).any (·.1)=false:=by rfl):PE X (.Call (.Name x p) (e::es) [] pos) (tCB r t):=by
 intro pins s σ H Q I h
 refine wpAny_Call_Name_kw (aLx I hg hm hv ?_ hn hdb)
 exact PyProof.Rows.callWith_type1 (thn (ha pos pins s σ H _ I h) fun us s1 ⟨vs,H1,I1,r1,q1⟩=>hc pins s1 σ H1 vs us Q I1 r1 q1) he hpl
end
end L2
namespace HT
open PySem PyProof.Rows
section
open PySem.SeqAt
open PySem.AutoSeq1 (wpAny_loadPart')
open PySem.MeetsSeq PySem.MeetsSeq2 PySem.MeetsSeq3
end
section
variable {prog:Program} {w:World} {A:Around} {E:Value -> Shared -> Prop} {s:Shared}
theorem cat_tup {t b:Addr} {vs ws:List Value} {Q:Value->Shared->Prop} (ht:IsTup s.heap t vs.toArray) (hb:IsTup s.heap b ws.toArray) (hv:vs≠[])
  (h1:ws=[]->Q (.ref t) s) (h2:ws≠[]->Q (.ref s.heap.objs.size) { s with heap:=s.heap.push { cls:=.type "tuple",data:=.seq (vs++ws).toArray } })
  (hsz:vs.length+ws.length<=sizeLine):wpAny (model prog w) A (binaryOp .Add (.ref t) (.ref b)) Q E s:=by
 obtain ⟨⟨cls,dd,data,sl⟩,ho,hc,n,hd⟩:=id ht
 obtain ⟨⟨cls2,dd2,data2,sl2⟩,ho2,hc2,n2,hd2⟩:=id hb
 simp only at hc hd hc2 hd2
 subst hc hd hc2 hd2
 have e:vs.toArray++ws.toArray=(vs++ws).toArray:=by simp
 by_cases hw:ws=[]
 ·exact concat_meets ⟨_,ho,rfl⟩ ⟨_,ho2,rfl⟩ noFill_tuple_add seq_tuple_add PySem.F.slot_tuple_add PySem.F.entry_tuple_add (PySem.F.args_tuple_add_2 _ _)
   (tuple_addW1 t b vs.toArray ws.toArray n n2 dd dd2 sl sl2 (by simpa using hv) (by simp [hw])) ⟨ho,ho2,h1 hw⟩
 ·refine concat_meets ⟨_,ho,rfl⟩ ⟨_,ho2,rfl⟩ noFill_tuple_add seq_tuple_add PySem.F.slot_tuple_add PySem.F.entry_tuple_add (PySem.F.args_tuple_add_2 _ _)
   (tuple_addW2 t b vs.toArray ws.toArray n n2 dd dd2 sl sl2 (by simpa using hv) (by simpa using hw) (by rw [List.size_toArray,List.size_toArray]; exact hsz)) ⟨ho,ho2,?_⟩
  rw [e]
  exact h2 hw
noncomputable def sIx (n d:Nat):Option Int->Nat
 | none=>d
 | some v=>if v < 0 then (v+(n:Int)).toNat else min v.toNat n
theorem sIx_nat (n d k:Nat):sIx n d (some (k:Int))=min k n:=by
 show (if (k:Int) < 0 then ((k:Int)+(n:Int)).toNat else min (k:Int).toNat n)=min k n
 rw [if_neg (by omega),Int.toNat_natCast]
theorem aYy (n d:Nat) (hd:d<=n) (o:Option Int):sIx n d o<=n:=by
 cases o with
 | none=>exact hd
 | some v =>
  show (if v < 0 then (v+(n:Int)).toNat else min v.toNat n)<=n
  by_cases hv:v < 0
  ·rw [if_pos hv]; omega
  ·rw [if_neg hv]; exact Nat.min_le_right _ _
theorem aSl (v:Int) (n d:Nat):(if v < 0 then max (v+(n:Int)) 0 else min v (n:Int))=((sIx n d (some v):Nat):Int):=by
 show (if v < 0 then max (v+(n:Int)) 0 else min v (n:Int))=(((if v < 0 then (v+(n:Int)).toNat else min v.toNat n):Nat):Int)
 by_cases hv:v < 0
 ·simp only [if_pos hv]; omega
 ·simp only [if_neg hv]; omega
theorem aPt (lo hi:Option Int) (n:Nat):Builtin.Slice.sliceAdjust lo hi 1 (n:Int)=(((sIx n 0 lo:Nat):Int),((sIx n n hi:Nat):Int)):=by
 have h1:¬ ((1:Int) < 0):=by omega
 unfold Builtin.Slice.sliceAdjust
 simp only [h1,if_false]
 refine Prod.ext ?_ ?_
 ·cases lo with
  | none=>rfl
  | some v=>exact aSl v n 0
 ·cases hi with
  | none=>rfl
  | some v=>exact aSl v n n
theorem aPd (i j:Nat):Builtin.Slice.slicePlaces (i:Int) (j:Int) 1=j - i:=by
 unfold Builtin.Slice.slicePlaces
 have h1:(1:Int) > 0:=by omega
 simp only [h1,if_true,Int.ediv_one]
 split <;> omega
theorem aIy {v:Value} {o:Option Int} {Q:Option Int->Shared->Prop} (p:IsPart v o) (h:Q o s):wpAny (model prog w) A (Builtin.Slice.slicePartIndex v) Q E s:=by
 cases p with
 | none=>exact slicePart_none h
 | int i t=>exact slicePart_int h
theorem aGn {sl:Addr} {vl vu:Value} {lo hi:Option Int} {n:Nat} {Q:Int×Int×Nat->Shared->Prop} (hs:s.heap.IsSliceOf sl vl vu .none) (pl:IsPart vl lo) (pu:IsPart vu hi)
  (h:Q (((sIx n 0 lo:Nat):Int),1,sIx n n hi - sIx n 0 lo) s):wpAny (model prog w) A (Builtin.Slice.sliceApplied (.ref sl) (pure (n:Int))) Q E s:=by
 obtain ⟨os,hos,hcs,hds⟩:=id hs
 unfold Builtin.Slice.sliceApplied Builtin.Slice.sliceFields
 refine wpAny_bind (wpAny_bind (wpAny_field hos hds (x:=vl) rfl (wpAny_bind (wpAny_field hos hds (x:=vu) rfl (wpAny_bind (wpAny_field hos hds (x:=.none) rfl (wpAny_pure ?_)))))))
 refine wpAny_bind (slicePart_none ?_)
 show wpAny _ _ (if ((1:Int)==0)=true then _ else _) _ _ s
 rw [if_neg (by decide)]
 refine wpAny_bind (aIy pl (wpAny_bind (aIy pu (wpAny_bind (wpAny_pure ?_)))))
 show wpAny _ _ (match Builtin.Slice.sliceAdjust lo hi 1 (n:Int) with | (lo,hi)=>pure (lo,(1:Int),Builtin.Slice.slicePlaces lo hi 1)) _ _ s
 rw [aPt lo hi n]
 show wpAny _ _ (pure (((sIx n 0 lo:Nat):Int),(1:Int),Builtin.Slice.slicePlaces ((sIx n 0 lo:Nat):Int) ((sIx n n hi:Nat):Int) 1)) _ _ s
 rw [aPd]
 exact wpAny_pure h
theorem aTl (xs:Array Value) (i k:Nat):((List.range k).filterMap fun (m:Nat)=>xs[((i:Int)+(m:Int) * 1).toNat]?).toArray=((xs.toList.drop i).take k).toArray:=by
 have e:(fun (m:Nat)=>xs[((i:Int)+(m:Int) * 1).toNat]?)=fun m=>xs[i+m]?:=by
  funext m
  have:((i:Int)+(m:Int) * 1).toNat=i+m:=by omega
  rw [this]
 rw [e]
 have:=pick_run xs i k
 rw [List.filterMap_map] at this
 have e2:((fun x=>xs[x]?) ∘ fun x=>i+x)=fun m=>xs[i+m]?:=rfl
 rw [e2] at this
 rw [this]
theorem getItem_tuple_cut {t sl:Addr} {items:Array Value} {vl vu:Value} {lo hi:Option Int} {Q:Value->Shared->Prop} (ht:IsTup s.heap t items) (hs:s.heap.IsSliceOf sl vl vu .none) (pl:IsPart vl lo) (pu:IsPart vu hi)
  (hw:¬ (sIx items.size 0 lo=0/\sIx items.size items.size hi=items.size))
  (h:Q (.ref s.heap.objs.size) { s with heap:=s.heap.push { cls:=.type "tuple",data:=.seq ((items.toList.drop (sIx items.size 0 lo)).take (sIx items.size items.size hi - sIx items.size 0 lo)).toArray } })
  (hsz:items.size<=sizeLine):wpAny (model prog w) A (getItem (.ref t) (.ref sl)) Q E s:=by
 have htake:sizeOk (.seq ((items.toList.drop (sIx items.size 0 lo)).take (sIx items.size items.size hi - sIx items.size 0 lo)).toArray):=by
  show ((items.toList.drop (sIx items.size 0 lo)).take (sIx items.size items.size hi - sIx items.size 0 lo)).toArray.size<=sizeLine
  rw [List.size_toArray,List.length_take,List.length_drop,Array.length_toList]
  omega
 have hj:sIx items.size items.size hi<=items.size:=aYy _ _ (Nat.le_refl _) hi
 obtain ⟨os,hos,hcs,hds⟩:=id hs
 have hTs:s.TypeIs (.ref sl) "slice":=⟨os,hos,hcs⟩
 unfold getItem
 try with_reducible refine wpAny_holding ?_
 first | refine wpAny_bind (wpAny_pure ?_) | skip
 refine wpAny_bind (wpAny_sequenceKey ht.typeIs (by decide) ?_)
 refine wpAny_bind (wpAny_callSpecial?_slot (name:=Str.ofString "__getitem__") ht.typeIs PyProof.Rows.slot_tuple_getitem
  (wpAny_call_entry PyProof.Rows.slot_tuple_getitem ht.typeIs entry_tuple_getitem ?_ (args_tuple_getitem _ _)))
 show wpAny _ _ (Builtin.Tuple.tupleItemsOf (.ref t) >>= _) _ _ s
 refine wpAny_bind (tupleItemsOf_ ht ?_)
 refine wpAny_bind (wpAny_typeOf hTs ?_)
 rw [if_pos (by decide)]
 refine wpAny_bind (aGn hs pl pu ?_)
 have hno:¬ ((((sIx items.size 0 lo:Nat):Int)==0&&(1:Int)==1&&(sIx items.size items.size hi - sIx items.size 0 lo)==items.size)=true):=by
  intro q
  rw [Bool.and_eq_true,Bool.and_eq_true] at q
  have q1:((sIx items.size 0 lo:Nat):Int)=0:=eq_of_beq q.1.1
  have q2:sIx items.size items.size hi - sIx items.size 0 lo=items.size:=eq_of_beq q.2
  exact hw ⟨by omega,by omega⟩
 show wpAny _ _ (if (((sIx items.size 0 lo:Nat):Int)==0&&(1:Int)==1&&(sIx items.size items.size hi - sIx items.size 0 lo)==items.size)=true then _ else _) _ _ s
 rw [if_neg hno,aTl]
 first
  | exact wpAny_bind (m:=Builtin.Tuple.tupleExact _) (wpAny_newObj_type (wpAny_pure ⟨_,rfl,wpAny_pure h⟩) htake)
  | exact wpAny_bind (m:=Builtin.Tuple.tupleExact _) (wpAny_newObj_type (wpAny_bind (wpAny_pure (wpAny_pure ⟨_,rfl,wpAny_pure h⟩))) htake)
  | exact wpAny_bind (wpAny_bind (m:=Builtin.Tuple.tupleExact _) (wpAny_newObj_type (wpAny_pure (wpAny_pure ⟨_,rfl,wpAny_pure h⟩)) htake))
  | exact wpAny_bind (wpAny_bind (m:=Builtin.Tuple.tupleExact _) (wpAny_newObj_type (wpAny_pure ⟨_,rfl,wpAny_pure h⟩) htake))
end
end HT
namespace L2
open PySem PySem.Spec PyProof.Rows
noncomputable abbrev TO:=St->Hp->(Option Int->Hp->Prop)->Prop
noncomputable def PO (X:Cx) (e:Option Expr) (t:TO):Prop :=
 ∀ (pins:List (Addr×Obj)) (s:Shared) (σ:St) (H:Hp) (Q:Option Int->Hp->Prop),Inv X pins σ H s->t σ H Q ->
  wpAny (model X.prog X.w) X.A (evalPart e X.env) (fun u s'=>∃ o H',Inv X pins σ H' s'/\IsPart u o/\Q o H') X.xe s
noncomputable def aQb:TO:=fun _ H Q=>Q none H
noncomputable def aYh (t:TE):TO:=fun σ H Q=>t σ H fun x H1=>∃ i,x=.int i/\Q (some i) H1
section
variable {X:Cx} {e:Expr} {te:TE} {lo hi:Option Expr} {tl th:TO} {pos p2:Pos}
theorem aBi:PO X none aQb:=by
 intro pins s σ H Q I h
 rw [evalPart_none]
 exact wpAny_pure ⟨none,H,I,.none,h⟩
theorem aBb (h:PE X e te):PO X (some e) (aYh te):=by
 intro pins s σ H Q I hw
 rw [evalPart_some]
 refine thn (h pins s σ H _ I hw) fun u s1 ⟨x,H1,I1,r1,q1⟩=>?_
 obtain ⟨i,rfl,q⟩:=q1
 obtain ⟨t,rfl⟩:=r1
 exact ⟨some i,H1,I1,.int i t,q⟩
noncomputable def SlR (X:Cx) (r:V->Option Int->Option Int->Hp->VK->Prop):Prop :=
 ∀ (pins:List (Addr×Obj)) (s:Shared) (σ:St) (H:Hp) (x:V) (v vl vu:Value) (lo hi:Option Int) (sl:Addr) (Q:VK),Inv X pins σ H s->aB6 x v->s.heap.IsSliceOf sl vl vu .none->IsPart vl lo->IsPart vu hi->r x lo hi H Q ->
  ∃ T id,typeLookup (.type T) "__getitem__"=pure (some (.builtin id))/\s.TypeIs v T/\wpAny (model X.prog X.w) X.A (getItem v (.ref sl)) (EP X pins σ Q) X.xe s
theorem SlR.or {r r':V->Option Int->Option Int->Hp->VK->Prop} (h:SlR X r) (h':SlR X r'):SlR X (fun x lo hi H Q=>r x lo hi H Q∨r' x lo hi H Q):=by
 intro pins s σ H x v vl vu lo hi sl Q I rx hs pl pu q
 rcases q with q | q
 ·exact h pins s σ H x v vl vu lo hi sl Q I rx hs pl pu q
 ·exact h' pins s σ H x v vl vu lo hi sl Q I rx hs pl pu q
noncomputable def tSl (r:V->Option Int->Option Int->Hp->VK->Prop) (te:TE) (tl th:TO):TE:=fun σ H Q=>te σ H fun x H1=>tl σ H1 fun l H2=>th σ H2 fun u H3=>r x l u H3 Q
theorem aAy {r:V->Option Int->Option Int->Hp->VK->Prop} (hr:SlR X r) (he:PE X e te) (hl:PO X lo tl) (hu:PO X hi th):PE X (.Subscript e (.Slice lo hi none p2) pos) (tSl r te tl th):=by
 intro pins s σ H Q I h
 refine Subscript_ (thn (he pins s σ H _ I h) fun v s1 ⟨x,H1,I1,r1,q1⟩=>?_)
 refine wpAny_Slice (thn (hl pins s1 σ H1 _ I1 q1) fun vl s2 ⟨l,H2,I2,pl,q2⟩=>thn (hu pins s2 σ H2 _ I2 q2) fun vu s3 ⟨u,H3,I3,pu,q3⟩=>?_)
 rw [evalPart_none]
 refine wpAny_pure ?_
 have I4:Inv X pins σ H3 { s3 with heap:=s3.heap.push { cls:=.type "slice",data:=.fields #[vl,vu,.none] } }:=I3.kept (t':=s3.toks) fun b ob q=>Heap.get?_push_of_some _ q
 obtain ⟨T,id,hT,ht,hg⟩:=hr pins { s3 with heap:=s3.heap.push { cls:=.type "slice",data:=.fields #[vl,vu,.none] } } σ H3 x v vl vu l u s3.heap.objs.size Q I4 r1 (Heap.IsSliceOf.new ..) pl pu q3
 show wpAny (model X.prog X.w) X.A (subscriptTail e (.Slice lo hi none p2) v (.ref s3.heap.objs.size)) (EP X pins σ Q) X.xe { s3 with heap:=s3.heap.push { cls:=.type "slice",data:=.fields #[vl,vu,.none] } }
 exact tail_any (ops:=[.ref s3.heap.objs.size,v]) ht hT hg (by with_unfolding_all rfl)
noncomputable def aDs (xs:List V) (lo hi:Option Int):List V:=(xs.drop (HT.sIx xs.length 0 lo)).take (HT.sIx xs.length xs.length hi - HT.sIx xs.length 0 lo)
theorem aId (xs:List V) (lo hi:Option Int):(aDs xs lo hi).length<=xs.length:=by
 unfold aDs
 rw [List.length_take,List.length_drop]
 omega
noncomputable def rSlT (K:PySem.W.Frag):V->Option Int->Option Int->Hp->VK->Prop:=fun x lo hi H Q=>∃ a xs,x=.ref a/\SqT K H a xs /\
 ¬ (HT.sIx xs.length 0 lo=0/\HT.sIx xs.length xs.length hi=xs.length)/\∀ p,H p=none->Q (.ref p) (upd H p (.tup (aDs xs lo hi)))
theorem aYu:SlR X (rSlT X.K):=by
 intro pins s σ H x v vl vu lo hi sl Q I rx hs pl pu h
 obtain ⟨a,xs,rfl,hx,hw,q⟩:=h
 cases rx
 obtain ⟨its,r,ht,hz⟩:=I.tuple hx
 have hlen:its.toArray.size=xs.length:=by rw [List.size_toArray]; exact r.length.symm
 refine ⟨"tuple",_,PyProof.Rows.slot_tuple_getitem.lookup,ht.typeIs,?_⟩
 refine HT.getItem_tuple_cut ht hs pl pu (by rw [hlen]; exact hw) ?_ (by rw [hlen]; exact hz)
 rw [hlen]
 refine ⟨.ref s.heap.objs.size,_,I.laid (t':=s.toks) (o:=.tup (aDs xs lo hi)) (fun b ob q=>Heap.get?_push_of_some _ q) (Nat.le_refl _) ?_,rfl,q _ (I.hok.fresh (Nat.le_refl _))⟩
 exact ⟨⟨Nat.le_trans (aId xs lo hi) hz,_,Heap.get?_push_size _ rfl,rfl⟩,_,(r.drop (HT.sIx xs.length 0 lo)).take (HT.sIx xs.length xs.length hi - HT.sIx xs.length 0 lo),IsTup.new _ _⟩
noncomputable def bAp (K:PySem.W.Frag):R2:=fun x y H Q=>∃ a b xs ys,x=.ref a/\y=.ref b/\SqT K H a xs/\SqT K H b ys/\xs≠[]/\xs.length+ys.length<=sizeLine /\
 (ys=[]->Q (.ref a) H)/\(ys≠[]->∀ p,H p=none->Q (.ref p) (upd H p (.tup (xs++ys))))
theorem aB0.nil_iff {xs:List V} {us:List Value} (r:aB0 xs us):us=[] ↔ xs=[]:=by
 cases r with
 | nil=>simp
 | cons _ _=>simp
theorem aWw:OpR X (binaryOp .Add) (bAp X.K):=by
 intro pins s σ H x y v u Q I rx ry h
 obtain ⟨a,b,xs,ys,rfl,rfl,ha,hb,hx,hz,q1,q2⟩:=h
 cases rx
 cases ry
 obtain ⟨its,r1,p1,_⟩:=I.tuple ha
 obtain ⟨its2,r2,p2,_⟩:=I.tuple hb
 refine HT.cat_tup p1 p2 (fun z=>hx (r1.nil_iff.mp z)) (fun z=>⟨.ref a,H,I,rfl,q1 (r2.nil_iff.mp z)⟩) (fun z=>?_) (by rw [← r1.length,← r2.length]; exact hz)
 refine ⟨.ref s.heap.objs.size,_,I.laid (t':=s.toks) (o:=.tup (xs++ys)) (fun b ob q=>Heap.get?_push_of_some _ q) (Nat.le_refl _) ?_,rfl,q2 (fun w=>z (r2.nil_iff.mpr w)) _ (I.hok.fresh (Nat.le_refl _))⟩
 exact ⟨⟨by rw [List.length_append]; exact hz,_,Heap.get?_push_size _ rfl,rfl⟩,_,r1.append r2,IsTup.new _ _⟩
end
end L2
namespace L2
open PySem PySem.Spec PyProof.Rows
noncomputable def ixN (n:Nat) (i:Int):Option Nat:=if 0<=i then (if i < n then some i.toNat else none) else if -(n:Int)<=i then some (i+n).toNat else none
noncomputable def atI {α:Type} (xs:List α) (i:Int):Option α:=(ixN xs.length i).bind fun j=>xs[j]?
theorem aRx {n:Nat} {i:Int} {j:Nat} (h:ixN n i=some j):seqIndex? i n=some j/\j < n/\-(n:Int)<=i/\i < n:=by
 unfold ixN at h
 by_cases h0:0<=i
 ·rw [if_pos h0] at h
  by_cases h1:i < n
  ·rw [if_pos h1] at h
   have e:i.toNat=j:=Option.some.inj h
   exact ⟨by rw [seqIndex_of h0 h1,e],by omega,by omega,h1⟩
  ·rw [if_neg h1] at h; cases h
 ·rw [if_neg h0] at h
  by_cases h1:-(n:Int)<=i
  ·rw [if_pos h1] at h
   have e:(i+n).toNat=j:=Option.some.inj h
   exact ⟨by rw [seqIndex_neg (by omega) h1,e],by omega,h1,by omega⟩
  ·rw [if_neg h1] at h; cases h
theorem aNn {α:Type} {xs:List α} {i:Int} {v:α} (h:atI xs i=some v):∃ j,seqIndex? i xs.length=some j/\xs[j]?=some v/\j < xs.length/\-(xs.length:Int)<=i/\i < xs.length:=by
 unfold atI at h
 cases e:ixN xs.length i with
 | none=>rw [e] at h; cases h
 | some j =>
  rw [e] at h
  obtain ⟨h1,h2,h3,h4⟩:=aRx e
  exact ⟨j,h1,h,h2,h3,h4⟩
theorem aA7 {α:Type} {xs:List α} {j:Nat} {v:α} (h:xs[j]?=some v):atI xs (j:Int)=some v:=by
 have hj:j < xs.length:=(List.getElem?_eq_some_iff.mp h).1
 have e:ixN xs.length (j:Int)=some j:=by
  unfold ixN
  rw [if_pos (by omega),if_pos (by omega)]; simp
 unfold atI; rw [e]; exact h
noncomputable def aX2 (b:Expr):Prop:=∀ o i,subscripted b false o i=operate [o,i] (getItem o i)
noncomputable def IxR (X:Cx) (r:R2):Prop :=
 ∀ (value slice:Expr) (pins:List (Addr×Obj)) (s:Shared) (σ:St) (H:Hp) (x y:V) (v u:Value) (Q:VK),Inv X pins σ H s->aB6 x v->aB6 y u->r x y H Q ->
  subscripted slice false v u=operate [v,u] (getItem v u)->wpAny (model X.prog X.w) X.A (subscriptTail value slice v u) (EP X pins σ Q) X.xe s
noncomputable def MtR (X:Cx) (id:String) (r:V->List V->Hp->VK->Prop):Prop :=
 ∀ (pins:List (Addr×Obj)) (s:Shared) (σ:St) (H:Hp) (x:V) (xs:List V) (v:Value) (us:List Value) (Q:VK),Inv X pins σ H s->aB6 x v->aB0 xs us->r x xs H Q ->
  wpAny (model X.prog X.w) X.A (call (.builtin id) (v::us)) (EP X pins σ Q) X.xe s
section
variable {X:Cx} {a b:Expr} {ta tb:TE} {pos:Pos}
theorem IxR.or {r r':R2} (h:IxR X r) (h':IxR X r'):IxR X (fun x y H Q=>r x y H Q∨r' x y H Q):=by
 intro value slice pins s σ H x y v u Q I rx ry q hs
 rcases q with q | q
 ·exact h value slice pins s σ H x y v u Q I rx ry q hs
 ·exact h' value slice pins s σ H x y v u Q I rx ry q hs
theorem aAr {r:R2} (hr:IxR X r) (ha:PE X a ta) (hb:PE X b tb) (hs:aX2 b):PE X (.Subscript a b pos) (tOp r ta tb):=by
 intro pins s σ H Q I h
 exact Subscript_ (binT ha hb I h fun v u s2 x y H2 I2 rx ry q=>hr a b pins s2 σ H2 x y v u Q I2 rx ry q (hs _ _))
noncomputable def rIxL (K:PySem.W.Frag):R2:=fun x y H Q=>∃ p xs i v,x=.ref p/\y=.int i/\SqL K H p xs/\atI xs i=some v/\Q v H
noncomputable def rIxT (K:PySem.W.Frag):R2:=fun x y H Q=>∃ p xs i v,x=.ref p/\y=.int i/\SqT K H p xs/\atI xs i=some v/\Q v H
noncomputable def rIxS:R2:=fun x y H Q=>∃ z i c,x=.str z/\y=.int i/\z.length<=sizeLine/\atI z.cps.toList i=some c/\Q (.str ⟨#[c]⟩) H
theorem aXf:IxR X (rIxL X.K):=by
 intro value slice pins s σ H x y v u Q I rx ry h hs
 obtain ⟨p,xs,i,z,rfl,rfl,hq,he,q⟩:=h
 cases rx
 obtain ⟨t,rfl⟩:=ry
 obtain ⟨its,r,pl,hz⟩:=I.list hq
 obtain ⟨j,h1,h2,h3,h4,h5⟩:=aNn he
 obtain ⟨w,ew,rw'⟩:=r.get h2
 have hl:=r.length
 have hn:=aLw
 have fin:EP X pins σ Q w s:=⟨z,H,I,rw',q⟩
 by_cases h0:0<=i
 ·have hj:i.toNat=j:=by
   rw [seqIndex_of h0 h5] at h1
   exact Option.some.inj h1
  exact item_listR pl.isList h0 (by omega) (by rw [hj]; simpa using ew) fin hs
 ·have hj:(i+(its.toArray.size:Int)).toNat=j:=by
   rw [seqIndex_neg (by omega) h4] at h1
   rw [List.size_toArray,← hl]
   exact Option.some.inj h1
  exact subscriptTail_builtinR (x:=w) pl.isList.typeIs slot_list_getitem.lookup
   (wpAny_getItem_list_neg (Q:=fun r s'=>r=w/\EP X pins σ Q r s') pl.isList (by omega) (by rw [List.size_toArray] <;> omega) (by omega) (by rw [hj]; simpa using ew) ⟨rfl,fin⟩) hs
theorem bBo:IxR X (rIxT X.K):=by
 intro value slice pins s σ H x y v u Q I rx ry h hs
 obtain ⟨p,xs,i,z,rfl,rfl,hq,he,q⟩:=h
 cases rx
 obtain ⟨t,rfl⟩:=ry
 obtain ⟨its,r,pl,hz⟩:=I.tuple hq
 obtain ⟨j,h1,h2,h3,h4,h5⟩:=aNn he
 obtain ⟨w,ew,rw'⟩:=r.get h2
 have hl:=r.length
 have hn:=aLw
 have fin:EP X pins σ Q w s:=⟨z,H,I,rw',q⟩
 exact subscriptTail_builtinR (x:=w) pl.typeIs slot_tuple_getitem.lookup
  (getItem_tuple (j:=j) (Q:=fun r s'=>r=w/\EP X pins σ Q r s') pl (by omega) (by omega) (by rw [List.size_toArray,← hl]; exact h1) (by simpa using ew) ⟨rfl,fin⟩) hs
theorem bBp:IxR X rIxS:=by
 intro value slice pins s σ H x y v u Q I rx ry h hs
 obtain ⟨z,i,c,rfl,rfl,hz,he,q⟩:=h
 obtain ⟨t,rfl⟩:=rx
 obtain ⟨t',rfl⟩:=ry
 obtain ⟨j,h1,h2,h3,h4,h5⟩:=aNn he
 have hl:z.cps.toList.length=z.length:=by simp [Str.length]
 rw [hl] at h1 h4 h5
 have hn:=aLw
 exact tail_any (typeIs_str s z t) slot_str_getitem.lookup (getItem_str (c:=c) (by
  have e1:decide (i < -(2 ^ 63:Int))=false:=decide_eq_false (by omega)
  have e2:decide (i ≥ 2 ^ 63)=false:=decide_eq_false (by omega)
  rw [e1,e2,Bool.or_false]) (by rw [h1]; simpa using h2) ⟨.str ⟨#[c]⟩,H,I.tok _,⟨_,rfl⟩,q⟩) hs
noncomputable def rIx (K:PySem.W.Frag):R2:=fun x y H Q=>rIxL K x y H Q∨rIxT K x y H Q∨rIxS x y H Q
theorem bBq:IxR X (rIx X.K):=aXf.or (bBo.or bBp)
theorem aPn (its:List Value) (n j:Nat) (u:Value):Obj.mapSeq (·.setIfInBounds j u) { cls:=.type "list",data:=.seq its.toArray n }={ cls:=.type "list",data:=.seq (its.set j u).toArray n }:=by
 simp [Obj.mapSeq]
theorem Inv.lst {pins:List (Addr×Obj)} {σ:St} {H:Hp} {s:Shared} {p:Addr} {xs:List V} (I:Inv X pins σ H s) (h:H p=some (.lst xs)) :
  ∃ (its:List Value) (n:Nat),aB0 xs its/\s.heap.get? p=some { cls:=.type "list",data:=.seq its.toArray n }/\xs.length<=sizeLine:=by
 obtain ⟨z,its,n,r,e⟩:=I.hok p _ h
 exact ⟨its,n,r,e,z⟩
theorem Inv.lstUpd {pins:List (Addr×Obj)} {σ:St} {H:Hp} {s:Shared} {p:Addr} {xs ys:List V} {its its':List Value} {n n':Nat} {f:Obj->Obj} (I:Inv X pins σ H s) (h:H p=some (.lst xs))
  (ho:s.heap.get? p=some { cls:=.type "list",data:=.seq its.toArray n }) (hf:f { cls:=.type "list",data:=.seq its.toArray n }={ cls:=.type "list",data:=.seq its'.toArray n' }) (r:aB0 ys its') (hz:ys.length<=sizeLine) (t:Nat) :
  Inv X pins σ (upd H p (.lst ys)) { s with heap:=s.heap.update p f,toks:=t }:=by
 have e:(s.heap.update p f).get? p=some { cls:=.type "list",data:=.seq its'.toArray n' }:=by
  rw [Heap.get?_update_self f ho (by rw [hf] <;> rfl),hf]
 refine I.write (x:=p) (e:=p) (by rw [h]; trivial) (.inl rfl) (fun b u hb q=>(Heap.get?_update_other _ _ (Ne.symm hb)).trans q) ⟨_,e⟩ ?_
 exact ⟨hz,its',n',r,e⟩
noncomputable def bAh:V->V->V->Hp->(Hp->Prop)->Prop:=fun o i v H Q=>∃ p xs k j,o=.ref p/\i=.int k/\H p=some (.lst xs)/\ixN xs.length k=some j/\Q (upd H p (.lst (xs.set j v)))
theorem aN6:PSet X bAh:=by
 intro pins s σ H o i v ov iv u Q I ro ri rv h
 obtain ⟨p,xs,k,j,rfl,rfl,hp,hj,q⟩:=h
 cases ro
 obtain ⟨t,rfl⟩:=ri
 obtain ⟨its,n,r,ho,hz⟩:=I.lst hp
 obtain ⟨h1,h2,h3,h4⟩:=aRx hj
 have hl:=r.length
 have hn:=aLw
 have I':Inv X pins σ (upd H p (.lst (xs.set j v))) { s with heap:=s.heap.update p (Obj.mapSeq (·.setIfInBounds j u)) } :=
  I.lstUpd hp ho (aPn its n j u) (r.set rv j) (by rw [List.length_set]; exact hz) s.toks
 by_cases h0:0<=k
 ·have hk:k.toNat=j:=by
   rw [seqIndex_of h0 h4] at h1
   exact Option.some.inj h1
  exact PySem.W.ki_setAt ho h0 (by omega) (by rw [List.size_toArray,← hl]; exact h4) (by rw [hk]; exact ⟨_,I',q⟩)
 ·have hk:(k+(its.toArray.size:Int)).toNat=j:=by
   rw [seqIndex_neg (by omega) h3] at h1
   rw [List.size_toArray,← hl]
   exact Option.some.inj h1
  exact PySem.W.ki_setBack ho (by omega) (by rw [List.size_toArray,← hl]; exact h3) (by omega) (by rw [hk]; exact ⟨_,I',q⟩)
theorem aLa (lo hi:Option Int) (n:Nat):(sliceBounds lo hi none n).1=((HT.sIx n 0 lo:Nat):Int)/\(sliceBounds lo hi none n).2.1=((HT.sIx n n hi:Nat):Int)/\(sliceBounds lo hi none n).2.2=1:=by
 refine ⟨?_,?_,rfl⟩
 ·cases lo with
  | none=>simp [sliceBounds,HT.sIx]
  | some i =>
   simp only [sliceBounds,HT.sIx,Option.getD_none,show (1:Int) > 0 by decide,if_true]
   by_cases h:i < 0
   ·simp only [h,if_true] <;> omega
   ·simp only [h,if_false] <;> omega
 ·cases hi with
  | none=>simp [sliceBounds,HT.sIx]
  | some i =>
   simp only [sliceBounds,HT.sIx,Option.getD_none,show (1:Int) > 0 by decide,if_true]
   by_cases h:i < 0
   ·simp only [h,if_true] <;> omega
   ·simp only [h,if_false] <;> omega
theorem aJm (its:List Value) (lo hi:Option Int):slicePick its.toArray lo hi none=((its.drop (HT.sIx its.length 0 lo)).take (HT.sIx its.length its.length hi - HT.sIx its.length 0 lo)).toArray:=by
 obtain ⟨h1,h2,h3⟩:=aLa lo hi its.toArray.size
 unfold slicePick
 rw [h1,h2,h3]
 simp only [sliceRange_one,pick_run,List.size_toArray] <;> rfl
noncomputable def rSlL (K:PySem.W.Frag):V->Option Int->Option Int->Hp->VK->Prop:=fun x lo hi H Q=>∃ a xs,x=.ref a/\SqL K H a xs/\∀ p,H p=none->Q (.ref p) (upd H p (.lst (aDs xs lo hi)))
theorem aVx:SlR X (rSlL X.K):=by
 intro pins s σ H x v vl vu lo hi sl Q I rx hs pl pu h
 obtain ⟨a,xs,rfl,hx,q⟩:=h
 cases rx
 obtain ⟨its,r,ht,hz⟩:=I.list hx
 have hlen:=r.length
 refine ⟨"list",_,slot_list_getitem.lookup,ht.isList.typeIs,?_⟩
 refine wpAny_getItem_list_slice ht.isList hs pl pu .none (by simp) ?_ (by rw [List.size_toArray] <;> omega)
 rw [aJm,← hlen]
 refine ⟨.ref s.heap.objs.size,_,I.laid (t':=s.toks) (o:=.lst (aDs xs lo hi)) (fun b ob q=>Heap.get?_push_of_some _ q) (Nat.le_refl _) ?_,rfl,q _ (I.hok.fresh (Nat.le_refl _))⟩
 exact ⟨Nat.le_trans (aId xs lo hi) hz,_,0,(r.drop (HT.sIx xs.length 0 lo)).take (HT.sIx xs.length xs.length hi - HT.sIx xs.length 0 lo),Heap.get?_push_size _ rfl⟩
noncomputable def aGs:V->Bool
 | .non=>true
 | .bl _=>true
 | .int _=>true
 | .str _=>true
 | _=>false
noncomputable def eqV:V->V->Bool
 | .non,.non=>true
 | .bl a,.bl b=>a==b
 | .bl a,.int b=>(if a then 1 else 0)==b
 | .int a,.bl b=>a==(if b then 1 else 0)
 | .int a,.int b=>a==b
 | .str a,.str b=>a==b
 | _,_=>false
theorem bB3 {A:Around} {s:Shared} {y x:V} {u v:Value} (ry:aB6 y u) (rx:aB6 x v) (fy:aGs y=true) (fx:aGs x=true):SeqAt.EqAt A s u v (eqV y x):=by
 cases y with
 | non =>
  cases ry
  cases x with
  | non=>cases rx; exact SeqAt.EqAt.same _
  | bl b=>cases rx; exact SeqAt.EqAt.none_bool b
  | int b=>obtain ⟨t,rfl⟩:=rx; exact SeqAt.EqAt.none_int b t
  | str b=>obtain ⟨t,rfl⟩:=rx; exact SeqAt.EqAt.none_str b t
  | _=>exact absurd (show false=true from fx) Bool.false_ne_true
 | bl a =>
  cases ry
  cases x with
  | non=>cases rx; exact SeqAt.EqAt.bool_none a
  | bl b=>cases rx; exact SeqAt.EqAt.bool_bool a b
  | int b=>obtain ⟨t,rfl⟩:=rx; exact SeqAt.EqAt.bool_int a b t
  | str b=>obtain ⟨t,rfl⟩:=rx; exact SeqAt.EqAt.bool_str a b t
  | _=>exact absurd (show false=true from fx) Bool.false_ne_true
 | int a =>
  obtain ⟨t',rfl⟩:=ry
  cases x with
  | non=>cases rx; exact SeqAt.EqAt.int_none a t'
  | bl b=>cases rx; exact SeqAt.EqAt.int_bool a t' b
  | int b=>obtain ⟨t,rfl⟩:=rx; exact SeqAt.EqAt.int_int a t' b t
  | str b=>obtain ⟨t,rfl⟩:=rx; exact SeqAt.EqAt.int_str a t' b t
  | _=>exact absurd (show false=true from fx) Bool.false_ne_true
 | str a =>
  obtain ⟨t',rfl⟩:=ry
  cases x with
  | non=>cases rx; exact SeqAt.EqAt.str_none a t'
  | bl b=>cases rx; exact SeqAt.EqAt.str_bool a t' b
  | int b=>obtain ⟨t,rfl⟩:=rx; exact SeqAt.EqAt.str_int a t' b t
  | str b=>obtain ⟨t,rfl⟩:=rx; exact SeqAt.EqAt.str_str a t' b t
  | _=>exact absurd (show false=true from fx) Bool.false_ne_true
 | _=>exact absurd (show false=true from fy) Bool.false_ne_true
noncomputable def eqU (x:V) (u:Value):Bool:=match u with
 | .none=>eqV .non x
 | .bool b=>eqV (.bl b) x
 | .int i _=>eqV (.int i) x
 | .str z _=>eqV (.str z) x
 | _=>false
theorem aVe {x y:V} {u:Value} (r:aB6 y u) (f:aGs y=true):eqU x u=eqV y x:=by
 cases y with
 | non=>cases r; rfl
 | bl b=>cases r; rfl
 | int i=>obtain ⟨t,rfl⟩:=r; rfl
 | str z=>obtain ⟨t,rfl⟩:=r; rfl
 | _=>exact absurd (show false=true from f) Bool.false_ne_true
theorem aIi {x:V}:∀ {xs:List V} {us:List Value},aB0 xs us->xs.all aGs=true->us.any (eqU x)=xs.any fun y=>eqV y x
 | _,_,.nil,_=>rfl
 | y::xs,u::us,.cons r t,f=>by
  rw [List.all_cons,Bool.and_eq_true] at f
  rw [List.any_cons,List.any_cons,aVe r f.1,aIi t f.2]
theorem aFo {A:Around} {s:Shared} {x:V} {v:Value} (rx:aB6 x v) (fx:aGs x=true):∀ {xs:List V} {us:List Value},aB0 xs us->xs.all aGs=true->∀ u∈us,SeqAt.EqAt A s u v (eqU x u)
 | _,_,.nil,_=>fun u hu=>by cases hu
 | y::xs,u::us,.cons r t,f=>fun u' hu=>by
  rw [List.all_cons,Bool.and_eq_true] at f
  rcases List.mem_cons.mp hu with rfl | hu
  ·rw [aVe r f.1]; exact bB3 r rx f.1 fx
  ·exact aFo rx fx t f.2 u' hu
noncomputable def inV (x:V) (xs:List V):Bool:=xs.any fun y=>eqV y x
noncomputable def rIn (K:PySem.W.Frag) (neg:Bool):R2:=fun x y H Q=>∃ p xs,y=.ref p/\(SqL K H p xs∨SqT K H p xs)/\aGs x=true/\xs.all aGs=true/\Q (.bl (if neg then !inV x xs else inV x xs)) H
theorem aLk:OpR X (compareOp .In) (rIn X.K false):=by
 intro pins s σ H x y v u Q I rx ry h
 obtain ⟨p,xs,rfl,hq,fx,fs,q⟩:=h
 cases ry
 rcases hq with hq | hq
 ·obtain ⟨its,r,pl,hz⟩:=I.list hq
  refine SeqAt.in_listAt (eqU x) pl.isList (fun w hw=>aFo rx fx r fs w (by simpa using hw)) ⟨.bl _,H,I,rfl,?_⟩
  rw [show its.toArray.any (eqU x)=its.any (eqU x) by simp,aIi r fs]
  exact q
 ·obtain ⟨its,r,pl,hz⟩:=I.tuple hq
  refine SeqAt.in_tupleAt (eqU x) pl (fun w hw=>aFo rx fx r fs w (by simpa using hw)) ⟨.bl _,H,I,rfl,?_⟩
  rw [show its.toArray.any (eqU x)=its.any (eqU x) by simp,aIi r fs]
  exact q
theorem aLj:OpR X (compareOp .NotIn) (rIn X.K true):=by
 intro pins s σ H x y v u Q I rx ry h
 obtain ⟨p,xs,rfl,hq,fx,fs,q⟩:=h
 cases ry
 rcases hq with hq | hq
 ·obtain ⟨its,r,pl,hz⟩:=I.list hq
  refine SeqAt.notIn_listAt (eqU x) pl.isList (fun w hw=>aFo rx fx r fs w (by simpa using hw)) ⟨.bl _,H,I,rfl,?_⟩
  rw [show its.toArray.any (eqU x)=its.any (eqU x) by simp,aIi r fs]
  exact q
 ·obtain ⟨its,r,pl,hz⟩:=I.tuple hq
  refine SeqAt.notIn_tupleAt (eqU x) pl (fun w hw=>aFo rx fx r fs w (by simpa using hw)) ⟨.bl _,H,I,rfl,?_⟩
  rw [show its.toArray.any (eqU x)=its.any (eqU x) by simp,aIi r fs]
  exact q
theorem aLi:OpR X (compareOp .NotIn) (fun x y H Q=>∃ i j,x=.str i/\y=.str j/\Q (.bl (!(!(Builtin.Str.occurrences j i 0 j.length 1).isEmpty))) H):=by
 intro pins s σ H x y v u Q I rx ry h
 obtain ⟨i,j,rfl,rfl,q⟩:=h
 obtain ⟨t,rfl⟩:=rx
 obtain ⟨t',rfl⟩:=ry
 exact notIn_str ⟨.bl _,H,I,rfl,q⟩
theorem aBe:aDm X (.type "tuple") (fun xs H Q=>∃ p ys,xs=[.ref p]/\((SqL X.K H p ys/\∀ l,H l=none->Q (.ref l) (upd H l (.tup ys)))∨(SqT X.K H p ys/\Q (.ref p) H))):=by
 intro pins s σ H xs us Q I r h
 obtain ⟨p,ys,rfl,h⟩:=h
 obtain ⟨u,rfl,rx⟩:=aP2 r
 cases rx
 rcases h with ⟨hq,q⟩ | ⟨hq,q⟩
 ·obtain ⟨its,r',pl,hz⟩:=I.list hq
  have hlen:=r'.length
  refine call_tuple_list pl.isList (fun h' kp=>?_) (by simp only [List.size_toArray] <;> omega)
  have I1:Inv X pins σ H { s with heap:=h' }:=I.kept (t':=s.toks) kp
  have I2:Inv X pins σ (upd H h'.objs.size (.tup ys)) { s with heap:=h'.push { cls:=.type "tuple",data:=.seq its.toArray } } :=
   I1.laid (t':=s.toks) (fun b o e=>Heap.get?_push_of_some _ e) (Nat.le_refl _) (show aCd X.prog X.w _ _ _ (.tup ys) from ⟨⟨hz,_,Heap.get?_push_size _ rfl,rfl⟩,its,r',IsTup.new _ _⟩)
  exact ⟨.ref h'.objs.size,_,I2,rfl,q _ (I1.hok.fresh (Nat.le_refl _))⟩
 ·obtain ⟨its,r',pl,hz⟩:=I.tuple hq
  exact call_tuple_same pl ⟨.ref p,H,I,rfl,q⟩
noncomputable def tyV (K:PySem.W.Frag) (T:String) (x:V) (H:Hp):Prop:=match x with
 | .str _=>T="str"
 | .int _=>T="int"
 | .ref p=>(T="list"/\∃ xs,SqL K H p xs)∨(T="tuple"/\∃ o,K.lookup p=some o/\o.cls=.type "tuple"/\o.dict=none) ∨
   (T="dict"/\((∃ kvs,H p=some (.dK kvs))∨∃ kvs,H p=some (.dT kvs)))∨(T="set"/\∃ S n,H p=some (.set S n))
 | _=>False
theorem aYg {pins:List (Addr×Obj)} {σ:St} {H:Hp} {s:Shared} {T:String} {x:V} {v:Value} (I:Inv X pins σ H s) (r:aB6 x v) (ty:tyV X.K T x H) :
  s.TypeIs v T/\∀ a,v=.ref a->∃ ob,s.heap.get? a=some ob/\ob.dict=none:=by
 cases x with
 | str z =>
  obtain ⟨t,rfl⟩:=r
  cases (show T="str" from ty)
  exact ⟨typeIs_str s z t,fun _ e=>nomatch e⟩
 | int i =>
  obtain ⟨t,rfl⟩:=r
  cases (show T="int" from ty)
  exact ⟨typeIs_int s i t,fun _ e=>nomatch e⟩
 | ref p =>
  cases r
  rcases ty with ⟨rfl,xs,hq⟩ | ⟨rfl,o,hk,hc,hd⟩ | ⟨rfl,hk⟩ | ⟨rfl,S,n,hk⟩
  ·obtain ⟨its,_,pl,_⟩:=I.list hq
   refine ⟨pl.isList.typeIs,fun a e=>?_⟩
   cases e
   obtain ⟨o,n,e,c,hd,_⟩:=pl
   exact ⟨o,e,hd⟩
  ·refine ⟨⟨o,I.kIn p o hk,hc⟩,fun a e=>?_⟩
   cases e
   exact ⟨o,I.kIn _ o hk,hd⟩
  ·have z:∃ o,s.heap.get? p=some o/\o.ExactDict:=by
    rcases hk with ⟨kvs,hk⟩ | ⟨kvs,hk⟩
    ·obtain ⟨_,_,_,_,o,_,_,e,ex,_⟩:=I.hok p _ hk
     exact ⟨o,e,ex⟩
    ·obtain ⟨_,_,_,_,o,_,_,e,ex,_⟩:=I.hok p _ hk
     exact ⟨o,e,ex⟩
   obtain ⟨o,e,ex⟩:=z
   refine ⟨⟨o,e,ex.1⟩,fun a e2=>?_⟩
   cases e2
   exact ⟨o,e,ex.2.1⟩
  ·obtain ⟨o,_,_,_,e,ex,_⟩:=I.hok p _ hk
   refine ⟨⟨o,e,ex.1⟩,fun a e2=>?_⟩
   cases e2
   exact ⟨o,e,ex.2.1⟩
 | _=>exact False.elim ty
noncomputable def tBM (K:PySem.W.Frag) (T:String) (r:V->List V->Hp->VK->Prop) (to:TE) (t:TA):TE:=fun σ H Q=>to σ H fun x H1=>tyV K T x H1/\t σ H1 fun xs H2=>r x xs H2 Q
variable {o e:Expr} {es:List Expr} {to:TE} {t:TA} {name:Str} {apos cpos:Pos} {T id:String} {r:V -> List V -> Hp -> VK -> Prop}
theorem aB4 (pa:PlainAttrs T) (slot:Slot T name id) (hty:typeOf (.builtin id)=pure (.type "method_descriptor")) (hm:MtR X id r) (ho:PE X o to) (ha:PA X (e::es) t)
  (hbase:attributeBase o name X.env (eval o X.env)=eval o X.env:=by rfl)
  (hfew:((backTo cpos (starEach (e::es) X.env)).all (fun x=>!x.1)&&(backToKw cpos (keywordEach [] X.env)).all (fun x=>x.1.isSome)
   && decide ((e::es).length+([]:List Keyword).length+(if ([]:List Keyword).isEmpty then 0 else 1) < 30))=true:=by rfl)
  (hline:(apos.endLine==cpos.line)=true:=by rfl) (hs:starEach (e::es) X.env=(false,eval e X.env)::starEach es X.env:=by rfl) (hplain:(backTo cpos (starEach es X.env)).any (·.1)=false:=by rfl) :
  PE X (.Call (.Attribute o name apos) (e::es) [] cpos) (tBM X.K T r to t):=by
 intro pins s σ H Q I h
 refine wpAny_Call_method_late hbase hfew hline rfl (thn (ho pins s σ H _ I h) fun v s1 ⟨x,H1,I1,r1,ty,q1⟩=>?_)
 obtain ⟨h1,h2⟩:=aYg I1 r1 ty
 refine ⟨T,id,pa,slot,hty,h1,h2,?_⟩
 have hA:=ha cpos pins s1 σ H1 _ I1 q1
 rw [hs] at hA ⊢
 refine Calls.callWith_builtin (by show (false || (backTo cpos (starEach es X.env)).any (·.1))=false; rw [hplain] <;> rfl) (Calls.evalArgs_plain ?_)
 exact thn hA fun us s2 ⟨vs,H2,I2,r2,q2⟩=>hm pins s2 σ H2 x vs v us Q I2 r1 r2 q2
/- xs.append(e),list.index on a module's tuple .. are MtR facts of 06m -/
end
end L2
namespace L2
open PySem PySem.Spec PyProof.Rows
noncomputable def MtM (X:Cx) (id:String) (r:V->List V->Hp->VK->Prop):Prop :=
 ∀ (pins:List (Addr×Obj)) (s:Shared) (σ:St) (H:Hp) (x:V) (xs:List V) (v:Value) (us:List Value) (Q:VK),Inv X pins σ H s->aB6 x v->aB0 xs us->r x xs H Q ->
  wpAny (model X.prog X.w) X.A (call (.builtin id) (v::us)) (EP X pins σ Q) X.xe s
theorem aB0.one:∀ {x:V} {us:List Value},aB0 [x] us->∃ u,us=[u]/\aB6 x u
 :=fun h=>by cases h with | cons r h=>cases h; exact ⟨_,rfl,r⟩
theorem aB0.two:∀ {x y:V} {us:List Value},aB0 [x,y] us->∃ u v,us=[u,v]/\aB6 x u/\aB6 y v
 :=fun h=>by cases h with | cons r h=>cases h with | cons q h=>cases h; exact ⟨_,_,rfl,r,q⟩
theorem aB0.rep {xs:List V} {us:List Value} (h:aB0 xs us):∀ k:Nat,aB0 (List.replicate k xs).flatten (List.replicate k us).flatten
 | 0=>.nil
 | k+1=>by
  rw [List.replicate_succ,List.replicate_succ,List.flatten_cons,List.flatten_cons]
  exact aB0.append h (aB0.rep h k)
theorem aL6 (its:List Value):∀ (k:Nat) (acc:List Value),
  List.foldl (fun x1 x2=>x1++x2) acc.toArray (List.replicate k its.toArray)=(acc++(List.replicate k its).flatten).toArray
 | 0,acc=>by simp
 | k+1,acc=>by
  have e:acc.toArray++its.toArray=(acc++its).toArray:=by simp
  have e2:(acc++its)++(List.replicate k its).flatten=acc++(List.replicate (k+1) its).flatten:=by
   rw [List.replicate_succ,List.flatten_cons,List.append_assoc]
  rw [← e2,← aL6 its k (acc++its),← e,List.replicate_succ,List.foldl_cons]
section
variable {X:Cx} {pins:List (Addr×Obj)} {σ:St} {H:Hp} {s:Shared} {l b:Addr} {xs ys zs:List V}
theorem Inv.lset {its its':List Value} {n:Nat} {f:Array Value->Array Value} {t':Nat} (I:Inv X pins σ H s) (hH:H l=some (.lst xs))
  (e:s.heap.get? l=some { cls:=.type "list",data:=.seq its.toArray n }) (hf:f its.toArray=its'.toArray) (hv:aB0 ys its') (hz:ys.length<=sizeLine) :
  Inv X pins σ (upd H l (.lst ys)) { s with heap:=s.heap.update l (Obj.mapSeq f),toks:=t' }:=by
 have q:=PySem.IsL.update e f
 rw [hf] at q
 refine I.write (x:=l) (e:=l) (by rw [hH]; exact trivial) (.inl rfl) (fun b' u hb hu=>(Heap.get?_update_other s.heap (Obj.mapSeq f) (Ne.symm hb)).trans hu) ⟨_,q⟩ ?_
 exact ⟨hz,its',_,hv,q⟩
theorem Inv.lnew {its:List Value} {t':Nat} (I:Inv X pins σ H s) (hv:aB0 ys its) (hz:ys.length<=sizeLine) :
  Inv X pins σ (upd H s.heap.objs.size (.lst ys)) { s with heap:=s.heap.push { cls:=.type "list",data:=.seq its.toArray },toks:=t' } :=
 I.laid (fun _ _ q=>Heap.get?_push_of_some _ q) (Nat.le_refl _) ⟨hz,its,0,hv,Heap.get?_push_size _ rfl⟩
theorem Inv.fresh (I:Inv X pins σ H s):H s.heap.objs.size=none:=I.hok.fresh (Nat.le_refl _)
theorem Inv.lstM (I:Inv X pins σ H s) (hH:H l=some (.lst xs)):xs.length<=sizeLine/\∃ (its:List Value) (n:Nat),aB0 xs its/\xs.length=its.length/\s.heap.get? l=some { cls:=.type "list",data:=.seq its.toArray n }:=by
 obtain ⟨z,its,n,r,e⟩:=I.hok l _ hH
 exact ⟨z,its,n,r,r.length,e⟩
theorem aT0 {n:Nat} (h:n<=sizeLine):Builtin.List.listTooLong n=false:=by
 unfold Builtin.List.listTooLong
 exact decide_eq_false (by omega)
end
section
variable {X:Cx}
noncomputable def aMz:V->List V->Hp->VK->Prop:=fun x vs H Q=>∃ l xs y,x=.ref l/\vs=[y]/\H l=some (.lst xs)/\xs.length < sizeLine/\Q .non (upd H l (.lst (xs++[y])))
theorem aBm:MtM X "list.append" aMz:=by
 intro pins s σ H x vs v us Q I rx rv h
 obtain ⟨l,xs,y,rfl,rfl,hH,hz,q⟩:=h
 cases rx
 obtain ⟨u,rfl,ru⟩:=rv.one
 obtain ⟨z,its,n,r,hl,e⟩:=I.lstM hH
 refine call_meets F.slot_list_append ⟨_,e,rfl⟩ F.entry_list_append (F.args_list_append_2 _ _) (PySem.list_append l its.toArray n u (by rw [List.size_toArray]; omega)) ⟨e,?_⟩
 refine ⟨.non,_,I.lset (its':=its++[u]) hH e (by simp) (r.append (.cons ru .nil)) ?_,rfl,q⟩
 rw [List.length_append,List.length_singleton]
 omega
noncomputable def rCat:R2:=fun x y H Q=>∃ l b xs zs,x=.ref l/\y=.ref b/\H l=some (.lst xs)/\H b=some (.lst zs)/\xs.length+zs.length<=sizeLine/\∀ p,H p=none->Q (.ref p) (upd H p (.lst (xs++zs)))
theorem bBa:OpR X (binaryOp .Add) rCat:=by
 intro pins s σ H x y v u Q I rx ry h
 obtain ⟨l,b,xs,zs,rfl,rfl,hH,hB,hz,q⟩:=h
 cases rx
 cases ry
 obtain ⟨z,its,n,r,hl,e⟩:=I.lstM hH
 obtain ⟨z2,its2,n2,r2,hl2,e2⟩:=I.lstM hB
 refine PySem.P.add_list e e2 ?_ (by rw [List.size_toArray,List.size_toArray]; omega)
 have ea:its.toArray++its2.toArray=(its++its2).toArray:=by simp
 rw [ea]
 exact ⟨.ref _,_,I.lnew (t':=s.toks) (r.append r2) (by rw [List.length_append]; omega),rfl,q _ I.fresh⟩
noncomputable def rRep:R2:=fun x y H Q=>∃ l k xs,x=.ref l/\y=.int k/\H l=some (.lst xs)/\-(2 ^ 63)<=k/\k < 2 ^ 63/\xs.length * k.toNat<=sizeLine /\
 ∀ p,H p=none->Q (.ref p) (upd H p (.lst (List.replicate k.toNat xs).flatten))
theorem aXc {α:Type} (xs:List α) (k:Nat):(List.replicate k xs).flatten.length=k * xs.length:=by
 induction k with
 | zero=>simp
 | succ k ih=>rw [List.replicate_succ,List.flatten_cons,List.length_append,ih,Nat.succ_mul,Nat.add_comm]
theorem bA6:OpR X (binaryOp .Mult) rRep:=by
 intro pins s σ H x y v u Q I rx ry h
 obtain ⟨l,k,xs,rfl,rfl,hH,h1,h2,hz,q⟩:=h
 cases rx
 obtain ⟨t,rfl⟩:=ry
 obtain ⟨z,its,n,r,hl,e⟩:=I.lstM hH
 have hlen:its.toArray.size * k.toNat<=sizeLine:=by rw [List.size_toArray,← hl]; exact hz
 have hcap:¬ its.toArray.size * k.toNat > (2 ^ 63 - 1) / 8:=by
  have:(sizeLine:Nat)<=(2 ^ 63 - 1) / 8:=by decide
  omega
 have hfit:¬ (!Builtin.List.listFitsIndex k)=true:=by
  rw [fitsIndex_both h1 h2]
  exact Bool.false_ne_true
 have hlong:¬ Builtin.List.listTooLong (its.toArray.size * k.toNat)=true:=by
  rw [aT0 hlen]
  exact Bool.false_ne_true
 have hnew:List.foldl (fun x1 x2=>x1++x2) #[] (List.replicate (if its.toArray.isEmpty=true then 0 else k.toNat) its.toArray)=(List.replicate k.toNat its).flatten.toArray:=by
  have f0:∀ m:Nat,List.foldl (fun x1 x2=>x1++x2) #[] (List.replicate m its.toArray)=(List.replicate m its).flatten.toArray:=fun m=>by
   have:=aL6 its m []
   rw [List.nil_append] at this
   exact this
  rw [f0]
  cases its with
  | nil=>simp
  | cons a r'=>rw [if_neg (by simp)]
 refine wpAny_binaryOp_repeat_ref (T:="list") (U:="int") (by decide) ⟨_,e,rfl⟩ (fun s'=>typeIs_int s' k t) noFill_list_mul F.fills_int_mul F.slot_int_rmul repeat_list F.slot_int_index.lookup
  (call_meets F.slot_int_rmul (typeIs_int s k t) F.entry_int_rmul (F.args_int_rmul_2 _ _) (int___rmul___int_list k t l its.toArray n)
   ⟨e,rfl,⟨_,e,rfl⟩,call_meets F.slot_list_mul ⟨_,e,rfl⟩ F.entry_list_mul (F.args_list_mul_2 _ _) (AutoListH.list___mul___list_int_3 l its.toArray n k t hfit hcap hlong) ⟨e,?_⟩⟩)
 rw [hnew]
 exact ⟨.ref _,_,I.lnew (t':=s.toks) (r.rep k.toNat) (by rw [aXc,Nat.mul_comm]; exact hz),rfl,q _ I.fresh⟩
end
section
variable {prog:Program} {w:World} {A:Around} {E:Value -> Shared -> Prop} {s:Shared}
end
section
variable {X:Cx}
end
end L2
namespace Att
open PySem PySem.W PySem.Calls PyProof.Rows
theorem aH7 {P:Params} {h:Heap}:∀ (ns:List Int) (vs:List Value),WellAll P h vs (ns.map WData.int)->IntsAre vs ns:=by
 intro ns
 induction ns with
 | nil =>
  intro vs w
  rw [List.map_nil] at w
  cases w
  exact .nil
 | cons n ns ih =>
  intro vs w
  rw [List.map_cons] at w
  cases w with
  | cons a b =>
   cases a
   exact .cons _ _ (ih _ b)
theorem aQn {l:OpenLaw} {n:Nat} (hn:l.most=some n) {P:Params} {h:Heap} {args:List WData} {vals:List Value}
  (hpre:l.row.toRowW.claim.pre args=true) (hwl:WellAll P h vals args) :
  ∃ a vs ns,vals=[Value.ref a]/\args=[WData.list (ns.map WData.int)]/\h.get? a=some { cls:=.type "list",data:=.seq vs.toArray }/\IntsAre vs ns/\ns.length<=n:=by
 have hsh:WShape.hasAll [] args [.list .int]=true:=(pre_splitW hpre).1
 have hc:l.pre.holds [] { args:=args }=true:=(pre_splitW hpre).2
 obtain ⟨d,r,rfl,h1,h2⟩:=hasAllW_cons hsh
 obtain rfl:=hasAllW_nil h2
 obtain ⟨xs,rfl,h3⟩:=hasW_list h1
 obtain ⟨ns,rfl⟩:=items_int h3
 have hlen:ns.length<=n:=by
  unfold OpenLaw.pre at hc
  have h4:(WTm.not (.lt (.lit (.int (n:Int))) (.len (.arg 0)))).holds [] { args:=[.list (ns.map .int)] }=true:=by
   have h4:=(holds_andW hc).1
   rw [hn] at h4
   exact h4
  have h5:=condW_of h4 (w_not (w_lt w_lit (w_len_list (w_arg rfl))))
  rw [List.length_map] at h5
  refine Nat.le_of_not_lt fun q=>?_
  have q':(n:Int) < ((ns.length:Nat):Int):=by omega
  first
   | (rw [decide_eq_true q'] at h5; exact absurd h5 (by decide))
   | (simp at h5; omega)
 cases hwl with
 | cons w1 w2 =>
  cases w2
  cases w1 with
  | list ho hall=>exact ⟨_,_,ns,rfl,rfl,ho,aH7 ns _ hall,hlen⟩
theorem aQ3 (l:OpenLaw) (args:List WData):l.row.toRowW.claim.post args (.bool true) args=true :=
 postW_of (r:=l.row.toRowW) (X:=(true==true))
  (show WShape.has [] (.bool true) .bool=true by first | rfl | decide | simp [WShape.has,WShape.arms,WShape.armsAll])
  (show (WTm.eq .res (.lit (.bool true))).value [] { args:=args,res:=some (.bool true),after:=args }=some (.bool (true==true)) from w_eq_bool (w_res rfl) w_lit) rfl
theorem attach_call {l:OpenLaw} {n:Nat} {q:Program} {loose:List Str} {XP:(Str->Option Value)->Heap->Prop} {YP:World->Heap->Prop} {d:DefRec}
  (hn:l.most=some n) (hdf:d.params.defaults=[])
  (call:∀ (w:World) (s₀ s₁:Shared) (mg mb:Str->Option Value) (fa:Addr) (o:Obj) (pm cd doc:Value) (a:Addr) (vs:List Value) (ns:List Int),
   Ground q loose [] XP w s₀ mg mb s₁.heap->YP w s₁.heap ->
   s₁.heap.get? fa=some o->o.data=.func (docDef d.name d.params d.body d.scope pm cd doc)->s₁.heap.CodeRec cd d.name->mg d.name=some (.ref fa) ->
   s₁.heap.get? a=some { cls:=.type "list",data:=.seq vs.toArray }->IntsAre vs ns->ns.length<=n->s₁.gens=#[] ->
   codeAny (model l.prog w) callerA (.call (.ref fa) ⟨[.ref a],[]⟩) (fun r s'=>r=.ok (.ret (.bool true))/\OldK s₁.heap s'.heap/\s'.os=s₁.os/\AllBare s'.gens) s₁) :
  WalkO q loose XP YP l.row.toRowW d [] (fun f vs=>PySem.call f vs):=by
 intro w s₀ s₁ mg mb G Y fa o pm cd doc dV kV ho hd hcd hD hmg hg args vals as hpre hlay hrd hwl hlo
 obtain rfl:dV=.none:=Dflts.none hD hdf
 obtain rfl:kV=.none:=Dflts.noKw hD
 obtain ⟨a,vs,ns,rfl,rfl,hobj,hints,hlen⟩:=aQn hn hpre hwl
 refine enter_call (codeAny_mono (call w s₀ s₁ mg mb fa o pm cd doc a vs ns G Y ho (fd_plain hd) hcd hmg hobj hints hlen hg) fun r s' hq=>?_)
 obtain ⟨rfl,h2,h3,h4⟩:=hq
 exact ⟨.inl ⟨.bool true,.bool true,[],rfl,fun _=>rfl,.bool true,aQ3 l _,fun _=>⟨List.Pairwise.nil,fun _ hm=>(nomatch hm)⟩⟩,h2,h3,h4⟩
section
variable {prog:Program} {w:World} {A:Around} {E:Value -> Shared -> Prop} {s:Shared} {K:Frag}
end
end Att
namespace L2
open PySem PySem.Spec PyProof.Rows
theorem aKy:∀ {vs:List Value} {ns:List Int},IntsAre vs ns->aB0 (ns.map V.int) vs
 | _,_,.nil=>.nil
 | _,_,.cons n t h=>.cons ⟨t,rfl⟩ (aKy h)
noncomputable def Only (H:Hp):Prop:=∀ b,H b=none∨∃ o xs,H b=some (.frz o (.lst xs))
theorem aT4 {P:Program} {w:World} {K:PySem.W.Frag} {mg mb:Str->Option Value} {CX:CXT} {k:Nat} {fa a:Addr} {fd:FuncData} {x:Str} {sp:Sp} {s₁:Shared} {vs:List Value} {ns:List Int}
  (KX:K.In s₁.heap) (hns:s₁.heap.Ns mainGlobals mg) (hb:s₁.heap.Ns builtinsNs mb) (hbb:∀ x:Str,x≠"__name__"->mb x=bootBuiltins x) (hlim:s₁.heap.NoLimit) (hg:s₁.gens=#[])
  (ha:s₁.heap.get? a=some { cls:=.type "list",data:=.seq vs.toArray }) (hi:IntsAre vs ns) (hl:ns.length<=sizeLine) (hr:aGu k callerA)
  (F:∀ base:Heap,K.In base->base.Ns mainGlobals mg->aNp P w K mg base CX k fa fd [x] sp) (hbind:∀ (s:Shared) (u:Value),BindsTo s fd ⟨[u],[]⟩ [(x,u)])
  (hsp:∀ H:Hp,Only H->SqL K H a (ns.map V.int)->sp [.ref a] H (fun v _=>v=.bl true) fun _ _ _=>False)
  (hCX:∀ H e s',CX [] H s₁ (fun _ _ _=>False) e s'->False) :
  codeAny (model P w) callerA (.call (.ref fa) ⟨[.ref a],[]⟩) (fun r s'=>r=.ok (.ret (.bool true))/\OldK s₁.heap s'.heap/\s'.os=s₁.os/\AllBare s'.gens) s₁:=by
 have rv:=aKy hi
 have lenV:=hi.length
 -- from an abstract heap in which nothing but the script may be tracked
 have core:∀ H:Hp,Only H->SqL K H a (ns.map V.int)->HOk P w H s₁.heap->(∀ b,H b≠none->b=a)->(H a≠none->K.lookup a=none) ->
   codeAny (model P w) callerA (.call (.ref fa) ⟨[.ref a],[]⟩) (fun r s'=>r=.ok (.ret (.bool true))/\OldK s₁.heap s'.heap/\s'.os=s₁.os/\AllBare s'.gens) s₁:=by
  intro H hO hS hok hA hK
  have base_of:∀ {b:Addr} {o:Obj},s₁.heap.get? b=some o->H b=none->(aT8 s₁.heap H).get? b=some o:=fun e n=>aT7 e n
  have noA:∀ {b:Addr} {o:Obj} {es:Array DictEntry} {ep:Nat},s₁.heap.get? b=some o->o.data=.dict es ep->H b=none:=fun {b o es ep} e d=>by
   cases q:H b with
   | none=>rfl
   | some u =>
    have e':b=a:=hA b (by rw [q]; simp)
    subst e'
    rw [ha] at e; cases e
    have d':Data.seq vs.toArray _=Data.dict es ep:=d
    cases d'
  have nsK:∀ {b:Addr} {m:Str->Option Value},s₁.heap.Ns b m->(aT8 s₁.heap H).Ns b m:=fun {b m} ⟨o,es,ep,e,d,r⟩=>⟨o,es,ep,base_of e (noA e d),d,r⟩
  have hKb:K.In (aT8 s₁.heap H):=fun b o e=>base_of (KX b o e) (by
   cases q:H b with
   | none=>rfl
   | some u =>
    have e':b=a:=hA b (by rw [q]; simp)
    subst e'
    rw [hK (by rw [q]; simp)] at e; cases e)
  have hM:Mod K mg (aT8 s₁.heap H):=⟨hKb,nsK hns,⟨mb,nsK hb,hbb⟩,let ⟨mc,h1,h2⟩:=hlim; ⟨mc,nsK h1,h2⟩⟩
  have e0:Env0 P w K mg (aT8 s₁.heap H) callerA [] s₁ H:=⟨rfl,hM,fun b o e=>aW4 e,Nat.le_of_eq (aR0 _ _),trivial,fun b hb=>absurd (show b∈([]:List Addr) from hb) (by simp),hok,.of_eq hg⟩
  refine codeAny_mono ((F _ hKb (nsK hns)).run callerA [] s₁ H ⟨[.ref a],[]⟩ [.ref a] [.ref a] _ _ hr e0 (hbind s₁ (.ref a)) (.cons rfl .nil) (hsp H hO hS)) fun r s' h=>?_
  cases r with
  | error e=>exact (hCX H e s' h).elim
  | ok fl =>
   cases fl with
   | next=>exact False.elim h
   | brk=>exact False.elim h
   | cont=>exact False.elim h
   | ret u =>
    obtain ⟨v,H',os,bare,un,hok',r',q⟩:=h
    have q':v=.bl true:=q
    subst q'
    obtain rfl:u=Value.bool true:=r'
    refine ⟨rfl,OldK.of_keep fun b o e=>?_,os,bare⟩
    cases q:H b with
    | none=>exact un.keep b o e q (by intro z; exact absurd (show b∈([]:List Addr) from z) (by simp)) (by simp)
    | some u =>
     rcases hO b with z | ⟨ob,xs,z⟩
     ·rw [q] at z; cases z
     ·have z2:=un.frzs b ob _ z
      obtain ⟨e1,_⟩:=hok b _ z
      obtain ⟨e2,_⟩:=hok' b _ z2
      rw [e] at e1; cases e1
      exact e2
 cases hk:K.lookup a with
 | some o =>
  -- the script is one of the module's own objects
  have e:=KX a o hk
  rw [ha] at e
  cases e
  refine core (fun _=>none) (fun _=>.inl rfl) (.inr ⟨_,vs.toArray,_,hk,rfl,rfl,rfl,by rw [List.size_toArray,lenV]; exact hl,by simpa using rv⟩) (fun b u z=>by have z':(none:Option HO)=some u:=z; cases z') (fun b z=>absurd rfl z) fun z=>absurd rfl z
 | none =>
  refine core (fun b=>if b=a then some (.frz { cls:=.type "list",data:=.seq vs.toArray } (.lst (ns.map V.int))) else none) (fun b=>?_) (.inl (.inr ⟨{ cls:=.type "list",data:=.seq vs.toArray },if_pos rfl⟩)) (fun b u z=>?_) (fun b z=>?_) fun _=>hk
  ·by_cases hb:b=a
   ·exact .inr ⟨_,_,if_pos hb⟩
   ·exact .inl (if_neg hb)
  ·by_cases hb:b=a
   ·have z':=(if_pos hb).symm.trans z
    cases z'
    subst hb
    exact ⟨ha,by rw [List.length_map]; exact hl,vs,_,rv,ha⟩
   ·have z':=(if_neg hb).symm.trans z
    cases z'
  ·by_cases hb:b=a
   ·exact hb
   ·exact absurd (if_neg hb) z
end L2
namespace L2
open PySem PySem.Spec PyProof.Rows
theorem walk_of {l:PySem.W.OpenLaw} {n k:Nat} {q:Program} {loose:List Str} {XP:(Str->Option Value)->Heap->Prop} {YP:World->Heap->Prop} {d:DefRec} {K:Params->PySem.W.Frag} {CX:World->CXT} {sp:World->Sp} {x:Str}
  (hn:l.most=some n) (hn2:n<=sizeLine) (hdf:d.params.defaults=[]) (hr:aGu k callerA)
  (hY:∀ (w:World) (h:Heap),YP w h->(K w.params).In h)
  (F:∀ (w:World) (mg:Str->Option Value) (fa:Addr) (h:Heap),(K w.params).In h->h.Ns mainGlobals mg->mg d.name=some (.ref fa) ->
   ∃ fd:FuncData,(∀ (s:Shared) (u:Value),BindsTo s fd ⟨[u],[]⟩ [(x,u)]) /\
    ∀ base:Heap,(K w.params).In base->base.Ns mainGlobals mg->aNp l.prog w (K w.params) mg base (CX w) k fa fd [x] (sp w))
  (hsp:∀ (w:World) (H:Hp) (a:Addr) (ns:List Int),ns.length<=n->Only H->SqL (K w.params) H a (ns.map V.int)->sp w [.ref a] H (fun v _=>v=.bl true) fun _ _ _=>False)
  (hCX:∀ (w:World) (H:Hp) (s:Shared) (e:Value) (s':Shared),CX w [] H s (fun _ _ _=>False) e s'->False) :
  PySem.W.WalkO q loose XP YP l.row.toRowW d [] (fun f vs=>PySem.call f vs):=by
 refine Att.attach_call hn hdf fun w s₀ s₁ mg mb fa o pm cd doc a vs ns G Y ho hd hcd hmg hobj hints hlen hg=>?_
 have KX:=hY w _ Y
 obtain ⟨fd,hb,hF⟩:=F w mg fa _ KX G.T.g hmg
 exact aT4 KX G.T.g G.T.b G.T.builtins G.T.nolimit hg hobj hints (Nat.le_trans hlen hn2) hr hF hb (fun H hO hS=>hsp w H a ns hlen hO hS) fun H e s'=>hCX w H s₁ e s'
end L2
/- THE LAST THEOREM (shape; LID,My.* are yours):
   My.Adr: a structure of the addresses that your layer names (classes,functions); My.Txt K t: a structure (Prop) of the equations over K;
   My.txt_mk:{K} {implicit addresses ..} (e1:nsIn K mainGlobals "law"=some (some (.ref f))) (e2:K.lookup f=some ⟨oc,od,.func (fnOf "law" "law" params body scope dV kV doc pm an cdv ct),sl⟩) (e3:codeIn K cdv "law"=true) ..:∃ t,My.Txt K t
(the tactic k_is has no namespace: write k_is) -/
namespace L2
open PySem PySem.Spec PyProof.Rows
noncomputable def aDa (s:Stmt):Arguments:=match s with
 | .FunctionDef _ a _ _ _ _ _ _ _ _=>a
 | _=>{ posonlyargs:=[],args:=[],vararg:=none,kwonlyargs:=[],kw_defaults:=[],kwarg:=none,defaults:=[] }
noncomputable def aCn (s:Stmt):List Stmt:=match s with
 | .FunctionDef _ _ b _ _ _ _ _ _ _=>b
 | _=>[]
noncomputable def aAh (s:Stmt):Scope:=match s with
 | .FunctionDef _ _ _ _ _ _ sc _ _ _=>sc
 | _=>{ kind:=.function,names:=[],isGenerator:=false,isCoroutine:=false }
noncomputable abbrev CX0:CXT:=fun _ _ _ _ _ _=>False
noncomputable abbrev E0:XK:=fun _ _ _=>False
theorem pass0 {X:Cx}:aIj CX0 X E0:=fun _ _ _ _ _ _ _ h=>h.elim
structure Fun (K:PySem.W.Frag) (x qual:Str) (st:Stmt) (f:Addr) (fd:FuncData):Prop where
 ex:∃ (oc:Value) (od:Option Addr) (kV doc pm:Value) (an:Option Addr) (cdv ct:Value) (osl:Array (Option Value)),
  fd=PySem.W.fnOf x qual (aDa st) (aCn st) (aAh st) .none kV doc pm an cdv ct/\K.lookup f=some ⟨oc,od,.func fd,osl⟩/\PySem.W.codeIn K cdv qual=true
 kp:PySem.W.keepIn K (.ref f)=true
section
variable {P:Program} {w:World} {K:PySem.W.Frag} {mg:Str -> Option Value} {base:Heap}
theorem Fun.ok {x qual:Str} {st:Stmt} {f:Addr} {fd:FuncData} {N ps:List Str} {k:Nat} {sp:Sp} (F:Fun K x qual st f fd) (S:aAv N ps (aAh st)) (len:∀ vs H Q E,sp vs H Q E->vs.length=ps.length)
  (hbody:∀ (cdv:Value) (A:Around) (outer:List Env) (s:Shared) (H:Hp) (vs:List V) (Q:VK) (E:XK),aGu k (A.deeper (envOfC qual (aAh st) s.heap.objs.size f cdv))->sp vs H Q E ->
   ∃ t,PSs (aPy CX0 P w K mg base N qual (aAh st) f cdv A outer s H E).nox (aCn st) t/\t { nx:=fun _ H'=>Q .non H',rt:=Q } (aIn N vs) H):aNp P w K mg base CX0 (k+1) f fd ps sp:=by
 obtain ⟨oc,od,kV,doc,pm,an,cdv,ct,osl,rfl,lk,hcd⟩:=F.ex
 refine aXk lk hcd S len fun A outer s H vs Q E hr hsp=>?_
 obtain ⟨t,h,q⟩:=hbody cdv A outer s H vs Q E hr hsp
 exact ⟨t,h.nox,q⟩
theorem bBy {x qual:Str} {st:Stmt} {f:Addr} {oc:Value} {od an:Option Addr} {osl:Array (Option Value)} {kV doc pm cdv ct:Value} (l:K.lookup f=some ⟨oc,od,.func (PySem.W.fnOf x qual (aDa st) (aCn st) (aAh st) .none kV doc pm an cdv ct),osl⟩)
  (c:PySem.W.codeIn K cdv qual=true) (k:PySem.W.keepIn K (.ref f)=true):Fun K x qual st f (PySem.W.fnOf x qual (aDa st) (aCn st) (aAh st) .none kV doc pm an cdv ct):=⟨⟨oc,od,kV,doc,pm,an,cdv,ct,osl,rfl,l,c⟩,k⟩
end
theorem aC4 {n:Nat} (h:n<=1000):n < sizeLine:=Nat.lt_of_le_of_lt h (by decide)
section
variable {X:Cx}
theorem pv (i:Nat) {x:Str} {pos:Pos} (hN:X.N[i]?=some x:=by rfl) (hv:Vis X.env.scope x:=by first | exact Or.inl rfl | exact Or.inr (Or.inl rfl) | exact Or.inr (Or.inr rfl)) (hd:(x==("__debug__":Str))=false:=by decide)
  (hcd:(x==("__classdict__":Str))=false:=by decide):PE X (.Name x pos) (tVar i):=bAy hN hv hd hcd
end
theorem iteF {A B:Prop} (h:B):if false=true then A else B:=by
 rw [if_neg Bool.false_ne_true]
 exact h
theorem iteT {A B:Prop} (h:A):if true=true then A else B:=by
 rw [if_pos rfl]
 exact h
noncomputable def aAm (H H':Hp):Prop:=∀ b o,H b=some o->H' b=some o
theorem aAm.refl (H:Hp):aAm H H:=fun _ _ h=>h
theorem aAm.trans {H H1 H2:Hp} (a:aAm H H1) (b:aAm H1 H2):aAm H H2:=fun c o h=>b c o (a c o h)
theorem aAm.free {H H':Hp} (e:aAm H H') {l:Addr} (h:H' l=Option.none):H l=Option.none:=by
 cases q:H l with
 | none=>rfl
 | some o =>
  rw [e l o q] at h
  cases h
theorem aAm.seq {K:PySem.W.Frag} {H H':Hp} {a:Addr} {xs:List V} (e:aAm H H') (h:SqL K H a xs):SqL K H' a xs:=by
 rcases h with (h | ⟨o,h⟩) | h
 ·exact .inl (.inl (e _ _ h))
 ·exact .inl (.inr ⟨o,e _ _ h⟩)
 ·exact .inr h
end L2
namespace L2
open PySem PySem.Spec PyProof.Rows
section
variable {κ:Type} [DecidableEq κ]
noncomputable def aDc (kvs:List (κ×V)) (k:κ):Option V:=(kvs.find? fun kv=>decide (kv.1=k)).map (·.2)
noncomputable def aEu (kvs:List (κ×V)) (k:κ) (v:V):List (κ×V) :=
 if (kvs.any fun kv=>decide (kv.1=k))=true then kvs.map (fun kv=>if kv.1=k then (kv.1,v) else kv) else kvs++[(k,v)]
theorem aCj {p:κ×V} {r:List (κ×V)} {k:κ} (e:p.1=k):aDc (p::r) k=some p.2:=by simp [aDc,List.find?_cons,e]
theorem aCk {p:κ×V} {r:List (κ×V)} {k:κ} (e:¬ p.1=k):aDc (p::r) k=aDc r k:=by simp [aDc,List.find?_cons,e]
theorem aGx (k:κ):∀ kvs:List (κ×V),(kvs.any fun kv=>decide (kv.1=k))=(aDc kvs k).isSome
 | []=>rfl
 | p::r=>by
  rw [List.any_cons]
  by_cases e:p.1=k
  ·simp only [aCj e,decide_eq_true e,Bool.true_or,Option.isSome_some]
  ·rw [aCk e,decide_eq_false e,Bool.false_or]; exact aGx k r
theorem aNt (k j:κ) (y:V):∀ kvs:List (κ×V),aDc (kvs.map fun kv=>if kv.1=k then (kv.1,y) else kv) j=(aDc kvs j).map fun x=>if j=k then y else x
 | []=>rfl
 | p::r=>by
  have ih:=aNt k j y r
  rw [List.map_cons]
  by_cases h:p.1=k
  ·rw [if_pos h]
   by_cases e:p.1=j
   ·rw [aCj (p:=(p.1,y)) e,aCj e,Option.map_some,if_pos (e.symm.trans h)]
   ·rw [aCk (p:=(p.1,y)) e,aCk e,ih]
  ·rw [if_neg h]
   by_cases e:p.1=j
   ·rw [aCj (p:=p) e,aCj e,Option.map_some,if_neg (fun z=>h (e.trans z))]
   ·rw [aCk (p:=p) e,aCk e,ih]
theorem aKz (k j:κ) (y:V):∀ kvs:List (κ×V),aDc kvs k=none->aDc (kvs++[(k,y)]) j=if j=k then some y else aDc kvs j
 | [],_=>by
  by_cases e:k=j
  ·rw [if_pos e.symm]; exact aCj (p:=(k,y)) e
  ·rw [if_neg (fun z=>e z.symm)]; exact aCk (p:=(k,y)) e
 | p::r,hn=>by
  rw [List.cons_append]
  have hk:¬ p.1=k:=fun z=>by rw [aCj z] at hn; cases hn
  rw [aCk hk] at hn
  have ih:=aKz k j y r hn
  by_cases e:p.1=j
  ·rw [aCj e,aCj e,if_neg (fun z=>hk (e.trans z))]
  ·rw [aCk e,aCk e,ih]
theorem aS1 (kvs:List (κ×V)) (k j:κ) (y:V):aDc (aEu kvs k y) j=if j=k then some y else aDc kvs j:=by
 unfold aEu
 by_cases a:(kvs.any fun kv=>decide (kv.1=k))=true
 ·rw [if_pos a,aNt]
  rw [aGx] at a
  by_cases e:j=k
  ·obtain ⟨x,hx⟩:=Option.isSome_iff_exists.mp a
   rw [if_pos e,e,hx,Option.map_some,if_pos rfl]
  ·rw [if_neg e]
   cases aDc kvs j with
   | none=>rfl
   | some x=>rw [Option.map_some,if_neg e]
 ·rw [if_neg a]
  refine aKz k j y kvs ?_
  rw [aGx] at a
  cases q:aDc kvs k with
  | none=>rfl
  | some x=>rw [q] at a; exact (a rfl).elim
theorem aE9 (kvs:List (κ×V)) (k:κ) (v:V):(aEu kvs k v).length<=kvs.length+1:=by
 unfold aEu
 split
 ·rw [List.length_map]; omega
 ·rw [List.length_append,List.length_cons,List.length_nil]; omega
theorem aO4.isSome_eq {o:Option V} {u:Option Value} (r:aO4 o u):o.isSome=u.isSome:=by
 cases o with
 | none=>cases u with
  | none=>rfl
  | some _=>exact (show False from r).elim
 | some _=>cases u with
  | none=>exact (show False from r).elim
  | some _=>rfl
theorem aO4.getD {o:Option V} {u:Option Value} {d:V} {d':Value} (r:aO4 o u) (rd:aB6 d d'):aB6 (o.getD d) (u.getD d'):=by
 cases o with
 | none=>cases u with
  | none=>exact rd
  | some _=>exact (show False from r).elim
 | some _=>cases u with
  | none=>exact (show False from r).elim
  | some _=>exact r
theorem KV.val {kvs:List (κ×V)} {vs:List (κ×Value)} (r:KV kvs vs) (k:κ):aO4 (aDc kvs k) (valueAt vs k):=by
 unfold KV at r
 induction r with
 | nil=>exact True.intro
 | @cons p q ps qs h t ih =>
  obtain ⟨h1,h2⟩:=h
  by_cases e:p.1=k
  ·have e':q.1=k:=h1.symm.trans e
   have b:valueAt (q::qs) k=some q.2:=by simp [valueAt,List.find?_cons,e']
   rw [aCj e,b]; exact h2
  ·have e':¬ q.1=k:=fun z=>e (h1.trans z)
   have b:valueAt (q::qs) k=valueAt qs k:=by simp [valueAt,List.find?_cons,e']
   rw [aCk e,b]; exact ih
theorem KV.any {kvs:List (κ×V)} {vs:List (κ×Value)} (r:KV kvs vs) (k:κ):(kvs.any fun kv=>decide (kv.1=k))=vs.any fun kv=>decide (kv.1=k):=by
 unfold KV at r
 induction r with
 | nil=>rfl
 | cons h t ih=>rw [List.any_cons,List.any_cons,ih,h.1]
theorem KV.repl {kvs:List (κ×V)} {vs:List (κ×Value)} (r:KV kvs vs) (k:κ) {y:V} {u:Value} (ry:aB6 y u) :
  KV (kvs.map fun kv=>if kv.1=k then (kv.1,y) else kv) (vs.map fun kv=>if kv.1=k then (kv.1,u) else kv):=by
 unfold KV at r ⊢
 induction r with
 | nil=>exact .nil
 | @cons p q ps qs h t ih =>
  rw [List.map_cons,List.map_cons]
  refine .cons ?_ ih
  obtain ⟨h1,h2⟩:=h
  by_cases e:p.1=k
  ·rw [if_pos e,if_pos (h1.symm.trans e)]; exact ⟨h1,ry⟩
  ·rw [if_neg e,if_neg (fun z=>e (h1.trans z))]; exact ⟨h1,h2⟩
theorem KV.put {kvs:List (κ×V)} {vs:List (κ×Value)} (r:KV kvs vs) (k:κ) {y:V} {u:Value} (ry:aB6 y u):KV (aEu kvs k y) (stored vs k u):=by
 unfold aEu stored
 rw [r.any k]
 by_cases e:(vs.any fun kv=>decide (kv.1=k))=true
 ·rw [if_pos e,if_pos e]; exact r.repl k ry
 ·rw [if_neg e,if_neg e]; exact Paired.snoc r ⟨rfl,ry⟩
theorem KV.length {kvs:List (κ×V)} {vs:List (κ×Value)} (r:KV kvs vs):kvs.length=vs.length:=Paired.length r
end
theorem aKi {P:Program} {w:World} {k:Key} {u:Value} (r:aB6 (kV k) u):(aB5 P w).is k u=true:=by
 cases k with
 | inl i=>obtain ⟨t,e⟩:=(show ∃ t,u=Value.int i t from r); subst e; exact aM8 P w i t
 | inr x=>obtain ⟨t,e⟩:=(show ∃ t,u=Value.str x t from r); subst e; exact aM7 P w x t
theorem aL5 {P:Program} {w:World}:∀ {ks:List Key} {us:List Value},aB0 (ks.map kV) us->ItemsAre (aB5 P w) ks us
 | [],_,r=>by rw [List.map_nil] at r; cases r; exact .nil
 | k::ks,_,r=>by
  rw [List.map_cons] at r
  cases r with
  | cons h t=>exact .cons (aKi h) (aL5 t)
noncomputable abbrev KT (H:Hp):List (List Key×V)->List (List Key×Addr×Value)->Prop:=Paired fun p q=>p.1=q.1/\H q.2.1=some (.tup (p.1.map kV))/\aB6 p.2 q.2.2
theorem KT.val {H:Hp} {kvs:List (List Key×V)} {xs:List (List Key×Addr×Value)} (r:KT H kvs xs) (k:List Key):aO4 (aDc kvs k) ((atKey xs k).map (·.2)):=by
 induction r with
 | nil=>exact True.intro
 | @cons p q ps qs h t ih =>
  obtain ⟨h1,_,h2⟩:=h
  by_cases e:p.1=k
  ·have e':q.1=k:=h1.symm.trans e
   have b:atKey (q::qs) k=some q.2:=by simp [atKey,List.find?_cons,e']
   rw [aCj e,b]; exact h2
  ·have e':¬ q.1=k:=fun z=>e (h1.trans z)
   have b:atKey (q::qs) k=atKey qs k:=by simp [atKey,List.find?_cons,e']
   rw [aCk e,b]; exact ih
theorem KT.repl {H:Hp} {kvs:List (List Key×V)} {xs:List (List Key×Addr×Value)} (r:KT H kvs xs) (k:List Key) {y:V} {u:Value} (ry:aB6 y u) :
  KT H (kvs.map fun kv=>if kv.1=k then (kv.1,y) else kv) (xs.map (putAt k u)):=by
 induction r with
 | nil=>exact .nil
 | @cons p q ps qs h t ih =>
  rw [List.map_cons,List.map_cons]
  refine .cons ?_ ih
  obtain ⟨h1,h2,h3⟩:=h
  unfold putAt
  by_cases e:p.1=k
  ·rw [if_pos e,if_pos (h1.symm.trans e)]; exact ⟨h1,h2,ry⟩
  ·rw [if_neg e,if_neg (fun z=>e (h1.trans z))]; exact ⟨h1,h2,h3⟩
theorem KT.put {H:Hp} {kvs:List (List Key×V)} {xs:List (List Key×Addr×Value)} (r:KT H kvs xs) (k:List Key) {b:Addr} {y:V} {u:Value} (hb:H b=some (.tup (k.map kV))) (ry:aB6 y u) :
  KT H (aEu kvs k y) (storedH xs k b u):=by
 have e:(kvs.any fun kv=>decide (kv.1=k))=(atKey xs k).isSome:=by
  rw [aGx,(r.val k).isSome_eq,Option.isSome_map]
 unfold aEu storedH
 rw [e]
 by_cases q:(atKey xs k).isSome=true
 ·rw [if_pos q,if_pos q]; exact r.repl k ry
 ·rw [if_neg q,if_neg q]; exact Paired.snoc r ⟨rfl,hb,ry⟩
theorem KT.keeps {H H':Hp} {kvs:List (List Key×V)} {xs:List (List Key×Addr×Value)} (r:KT H kvs xs) (ht:∀ b ys,H b=some (.tup ys)->H' b=some (.tup ys)):KT H' kvs xs :=
 Paired.mapP r fun _ _ z=>⟨z.1,ht _ _ z.2.1,z.2.2⟩
section
variable {P:Program} {w:World} {H:Hp} {h:Heap} {a:Addr}
theorem aY3 {u:HO} (ok:HOk P w H h) (e:Rd H a u):aCd P w H h a u:=e.ok ok
theorem aNi {kvs:List (Key×V)} (ok:HOk P w H h) (e:Rd H a (.dK kvs)):kvs.length<=sizeLine/\(a==sysModules)=false/\∃ vs,KV kvs vs/\h.DictOf (aB5 P w) a vs :=
 show aCd P w H h a (.dK kvs) from aY3 ok e
theorem bB8 {kvs:List (Key×V)} (ok:HOk P w H h) (e:H a=some (.dK kvs)):kvs.length<=sizeLine/\(a==sysModules)=false/\∃ vs,KV kvs vs/\h.DictOf (aB5 P w) a vs:=aNi ok (.inl e)
theorem aI9 {ks:List Key} (ok:HOk P w H h) (e:H a=some (.tup (ks.map kV))):(tupleKind (aB5 P w)).is h ks a:=by
 obtain ⟨_,its,r,o,h1,h2,n,h3⟩:=(show aCd P w H h a (.tup (ks.map kV)) from ok a _ e)
 exact ⟨o,its.toArray,n,h1,h2,h3,by simpa using aL5 r⟩
theorem aNh {kvs:List (List Key×V)} (ok:HOk P w H h) (e:Rd H a (.dT kvs)):kvs.length<=sizeLine/\(a==sysModules)=false /\
  ∃ xs,KT H kvs xs/\h.DictOfH (tupleKind (aB5 P w)) a xs:=by
 obtain ⟨z,y,xs,r,o,es,ep,h1,h2,h3,h4,h5⟩:=(show aCd P w H h a (.dT kvs) from aY3 ok e)
 refine ⟨z,y,xs,r,o,es,ep,h1,h2,h3,h4,fun x hx=>?_,h5⟩
 have all:∀ {l:List (List Key×V)} {m:List (List Key×Addr×Value)},KT H l m->∀ x∈m,(tupleKind (aB5 P w)).is h x.1 x.2.1:=by
  intro l m q
  induction q with
  | nil=>intro x hx; exact nomatch hx
  | @cons p q ps qs hq t ih =>
   intro x hx
   rcases List.mem_cons.mp hx with e | hx
   ·subst e
    exact aI9 ok (by rw [← hq.1]; exact hq.2.1)
   ·exact ih x hx
 exact all r x hx
theorem dt_of {kvs:List (List Key×V)} (ok:HOk P w H h) (e:H a=some (.dT kvs)):kvs.length<=sizeLine/\(a==sysModules)=false /\
  ∃ xs,KT H kvs xs/\h.DictOfH (tupleKind (aB5 P w)) a xs:=aNh ok (.inl e)
end
noncomputable def aPw (H:Hp) (a:Addr) (y:V) (r:Option V):Prop :=
 (∃ kvs k,Rd H a (.dK kvs)/\y=kV k/\r=aDc kvs k)∨∃ kvs k b,Rd H a (.dT kvs)/\y=.ref b/\H b=some (.tup (k.map kV))/\r=aDc kvs k
noncomputable def aX4 (H:Hp) (a:Addr) (y v:V) (H':Hp):Prop :=
 (∃ kvs k,H a=some (.dK kvs)/\y=kV k/\kvs.length < sizeLine/\H'=upd H a (.dK (aEu kvs k v))) ∨
 ∃ kvs k b,H a=some (.dT kvs)/\y=.ref b/\H b=some (.tup (k.map kV))/\kvs.length < sizeLine/\H'=upd H a (.dT (aEu kvs k v))
theorem aX4.k {H:Hp} {a:Addr} {kvs:List (Key×V)} {k:Key} {v:V} (e:H a=some (.dK kvs)) (hl:kvs.length < sizeLine):aX4 H a (kV k) v (upd H a (.dK (aEu kvs k v))):=.inl ⟨kvs,k,e,rfl,hl,rfl⟩
section
variable {X:Cx} {pins:List (Addr×Obj)} {σ:St} {H:Hp} {s:Shared} {a:Addr} {y v:V} {u r:Value} {o:Option V} {A:Around} {E:Value -> Shared -> Prop}
theorem Inv.big (I:Inv X pins σ H s):sysModules < s.heap.objs.size:=by
 have h:mainGlobals < s.heap.objs.size:=(I.mod.glob.keeps I.bk).lt
 exact Nat.lt_trans (by decide) h
theorem aSg {Q:Value->Shared->Prop} (hu:A.units+1 < cLine) (I:Inv X pins σ H s) (g:aPw H a y (some v)) (ry:aB6 y u) (h:∀ w' s',Inv X pins σ H s'->aB6 v w'->Q w' s') :
  wpAny (model X.prog X.w) A (getItem (.ref a) u) Q E s:=by
 rcases g with ⟨kvs,k,e,ey,l⟩ | ⟨kvs,k,b,e,ey,eb,l⟩
 ·subst ey
  obtain ⟨z,hd,vs,rel,dd⟩:=aNi I.hok e
  obtain ⟨w',hw,rw'⟩:=aO4.some_of (v:=v) (o:=valueAt vs k) (by rw [l]; exact rel.val k)
  exact wpAny_getItem_of (aKi ry) dd.mapOf hw (h w' _ (I.tok _) rw')
 ·subst ey
  cases (show u=Value.ref b from ry)
  obtain ⟨z,hd,xs,rel,dd⟩:=aNh I.hok e
  obtain ⟨w',hw,rw'⟩:=aO4.some_of (v:=v) (o:=(atKey xs k).map (·.2)) (by rw [l]; exact rel.val k)
  obtain ⟨p,hp,hp2⟩:=Option.map_eq_some_iff.mp hw
  refine wpAny_getItem_heap (tupleKind_room_in1 hu) (aI9 I.hok eb) dd hp ?_
  rw [hp2]
  exact h w' _ (I.tok _) rw'
theorem d_in {Q:Value->Shared->Prop} (hu:A.units+1 < cLine) (I:Inv X pins σ H s) (g:aPw H a y o) (ry:aB6 y u) (h:∀ s',Inv X pins σ H s'->Q (.bool o.isSome) s') :
  wpAny (model X.prog X.w) A (compareOp .In u (.ref a)) Q E s:=by
 rcases g with ⟨kvs,k,e,ey,l⟩ | ⟨kvs,k,b,e,ey,eb,l⟩
 ·subst ey
  obtain ⟨z,hd,vs,rel,dd⟩:=aNi I.hok e
  refine wpAny_in_of (aKi ry) hd dd.mapOf ?_
  rw [← (rel.val k).isSome_eq,← l]
  exact h _ (I.tok _)
 ·subst ey
  cases (show u=Value.ref b from ry)
  obtain ⟨z,hd,xs,rel,dd⟩:=aNh I.hok e
  refine wpAny_in_heap (tupleKind_room_in1 hu) (aI9 I.hok eb) hd dd ?_
  have q:=(rel.val k).isSome_eq
  rw [Option.isSome_map] at q
  rw [← q,← l]
  exact h _ (I.tok _)
theorem aXt {Q:Value->Shared->Prop} (hu:A.units+1 < cLine) (I:Inv X pins σ H s) (g:aPw H a y o) (ry:aB6 y u) (h:∀ s',Inv X pins σ H s'->Q (.bool (!o.isSome)) s') :
  wpAny (model X.prog X.w) A (compareOp .NotIn u (.ref a)) Q E s:=by
 rcases g with ⟨kvs,k,e,ey,l⟩ | ⟨kvs,k,b,e,ey,eb,l⟩
 ·subst ey
  obtain ⟨z,hd,vs,rel,dd⟩:=aNi I.hok e
  refine wpAny_notIn_of (aKi ry) hd dd.mapOf ?_
  rw [← (rel.val k).isSome_eq,← l]
  exact h _ (I.tok _)
 ·subst ey
  cases (show u=Value.ref b from ry)
  obtain ⟨z,hd,xs,rel,dd⟩:=aNh I.hok e
  refine wpAny_notIn_heap (tupleKind_room_in1 hu) (aI9 I.hok eb) hd dd ?_
  have q:=(rel.val k).isSome_eq
  rw [Option.isSome_map] at q
  rw [← q,← l]
  exact h _ (I.tok _)
theorem aNk {h':Heap} {t':Nat} {ob:HO} (I:Inv X pins σ H s) (mu:Mut (H a)) (hs:Heap.SameBut a s.heap h') (he:∃ q,h'.get? a=some q) (new:aCd X.prog X.w (upd H a ob) h' a ob) :
  Inv X pins σ (upd H a ob) { s with heap:=h',toks:=t' } :=
 I.write (x:=a) (e:=a) mu (.inl rfl) (fun b q hb z=>(hs.2 b hb).trans z) he new
theorem aVg {P:Program} {w:World} {H':Hp} {h':Heap} {kvs:List (Key×V)} {vs:List (Key×Value)} (z:kvs.length<=sizeLine) (hd:(a==sysModules)=false) (rel:KV kvs vs) (dd:h'.DictOf (aB5 P w) a vs) :
  aCd P w H' h' a (.dK kvs):=⟨z,hd,vs,rel,dd⟩
theorem aSf {H':Hp} {Q:Unit->Shared->Prop} (hu:A.units+1 < cLine) (I:Inv X pins σ H s) (g:aX4 H a y v H') (ry:aB6 y u) (rv:aB6 v r) (h:∀ s',Inv X pins σ H' s'->Q () s') :
  wpAny (model X.prog X.w) A (setItem (.ref a) u r) Q E s:=by
 rcases g with ⟨kvs,k,e,ey,l,eH⟩ | ⟨kvs,k,b,e,ey,eb,l,eH⟩
 ·subst ey eH
  obtain ⟨z,hd,vs,rel,dd⟩:=bB8 I.hok e
  have hz:vs.length<=sizeLine:=by rw [← rel.length]; exact z
  have hl:(aEu kvs k v).length<=sizeLine:=by have:=aE9 kvs k v; omega
  refine wpAny_setItem_pairs (hsz:=hz) (aKi ry) dd fun h' dd' hs=>h _ ?_
  have he:∃ q,h'.get? a=some q:=let ⟨q,_,_,hq,_⟩:=dd'; ⟨q,hq⟩
  exact aNk I (by rw [e]; exact True.intro) hs he (aVg hl hd (rel.put k rv) dd')
 ·subst ey eH
  cases (show u=Value.ref b from ry)
  obtain ⟨z,hd,xs,rel,dd⟩:=dt_of I.hok e
  have hz:xs.length<=sizeLine:=by rw [← Paired.length rel]; exact z
  have hl:(aEu kvs k v).length<=sizeLine:=by have:=aE9 kvs k v; omega
  refine wpAny_setItem_heap (hsz:=hz) (tupleKind_room_in1 hu) (aI9 I.hok eb) dd fun h' dd' hs=>h _ ?_
  obtain ⟨q,es,ep,hq,h2,h3,h4,_,h5⟩:=dd'
  refine aNk I (by rw [e]; exact True.intro) hs ⟨q,hq⟩ ⟨hl,hd,_,(rel.put k eb rv).keeps fun c ys ec=>?_,q,es,ep,hq,h2,h3,h4,h5⟩
  rw [aBg (aW7 ec e (fun z=>nomatch z))]
  exact ec
end
section
variable {X:Cx} {pins:List (Addr×Obj)} {σ:St} {H:Hp} {s:Shared} {a:Addr} {kvs:List (Key×V)} {k:Key} {u:Value} {A:Around} {E:Value -> Shared -> Prop}
end
noncomputable def NoSl (i:Expr):Prop:=∀ ov iv,subscripted i false ov iv=operate [ov,iv] (getItem ov iv)
theorem aQg {prog:Program} {w:World} {A:Around} {E:Value->Shared->Prop} {s:Shared} {env:Env} {value slice:Expr} {pos:Pos} {T id:String} {Q:Value->Shared->Prop}
  (hl:typeLookup (.type T) "__getitem__"=pure (some (.builtin id))) (hs:NoSl slice)
  (h:wpAny (model prog w) A (eval value env) (fun o s₁=>wpAny (model prog w) A (eval slice env) (fun i s₂=>s₂.TypeIs o T/\wpAny (model prog w) A (getItem o i) Q E s₂) E s₁) E s) :
  wpAny (model prog w) A (eval (.Subscript value slice pos) env) Q E s:=by
 refine Subscript_ (wpAny_mono h (fun o s₁ h₁=>wpAny_mono h₁ (fun i s₂ h₂=>?_) fun _ _ x=>x) fun _ _ x=>x)
 obtain ⟨hT,h₂⟩:=h₂
 unfold subscriptTail
 refine wpAny_bind ?_
 rw [getitemInPython_of_ne hT.not_modules]
 refine wpAny_bind (wpAny_specialOf hT hl ?_)
 have fin:wpAny (model prog w) A (subscripted slice false o i) (fun r s₃=>wpAny (model prog w) A (letTemporaryGo value o r >>= fun _=>pure r) Q E s₃) E s₂:=by
  rw [hs o i]
  exact wpAny_operating (wpAny_mono h₂ (fun r s₃ h₃=>wpAny_bind (wpAny_letTemporaryGo (wpAny_pure h₃))) fun _ _ x=>x)
 first
  | exact wpAny_pure (wpAny_bind fin)
  | exact wpAny_bind (wpAny_pure (wpAny_bind fin))
  | exact wpAny_bind fin
theorem aNj {X:Cx} {pins:List (Addr×Obj)} {σ:St} {H:Hp} {s:Shared} {a:Addr} {y:V} {o:Option V} (I:Inv X pins σ H s) (g:aPw H a y o):s.TypeIs (.ref a) "dict":=by
 rcases g with ⟨kvs,k,e,_,_⟩ | ⟨kvs,k,b,e,_,_,_⟩
 ·obtain ⟨_,_,vs,_,dd⟩:=aNi I.hok e
  exact dd.typeIs
 ·obtain ⟨_,_,xs,_,dd⟩:=aNh I.hok e
  exact dd.typeIs
noncomputable def aYq (td ty:TE):TE:=fun σ H Q=>td σ H fun x H1=>ty σ H1 fun y H2=>∃ a v,x=.ref a/\aPw H2 a y (some v)/\Q v H2
noncomputable def tDIn (ty td:TE):TE:=fun σ H Q=>ty σ H fun y H1=>td σ H1 fun x H2=>∃ a o,x=.ref a/\aPw H2 a y o/\Q (.bl o.isSome) H2
noncomputable def aQc (ty td:TE):TE:=fun σ H Q=>ty σ H fun y H1=>td σ H1 fun x H2=>∃ a o,x=.ref a/\aPw H2 a y o/\Q (.bl (!o.isSome)) H2
noncomputable def aYz (td ty tv:TE):TS:=fun D σ H=>tv σ H fun v H1=>td σ H1 fun x H2=>ty σ H2 fun y H3=>∃ a H4,x=.ref a/\aX4 H3 a y v H4/\D.nx σ H4
section
variable {X:Cx} {o i e value:Expr} {pos pos' tpos:Pos} {td ty tv:TE}
theorem aB2 (hu:X.A.units+1 < cLine) (ho:PE X o td) (hi:PE X i ty) (hs:NoSl i):PE X (.Subscript o i pos) (aYq td ty):=by
 intro pins s σ H Q I h
 refine aQg PySem.F.slot_dict_getitem.lookup hs (thn (ho pins s σ H _ I h) fun u s1 ⟨x,H1,I1,rx,q1⟩=>thn (hi pins s1 σ H1 _ I1 q1) fun iv s2 ⟨y,H2,I2,ry,a,v,ex,g,q2⟩=>?_)
 subst ex
 obtain rfl:u=Value.ref a:=rx
 exact ⟨aNj I2 g,aSg hu I2 g ry fun w' s3 I3 rw'=>⟨v,H2,I3,rw',q2⟩⟩
theorem aVa (hu:X.A.units+1 < cLine) (hi:PE X i ty) (ho:PE X o td):PC X .In i o (tDIn ty td):=by
 intro pins s σ H Q I h
 refine thn (hi pins s σ H _ I h) fun iv s1 ⟨y,H1,I1,ry,q1⟩=>thn (ho pins s1 σ H1 _ I1 q1) fun u s2 ⟨x,H2,I2,rx,a,ov,ex,g,q2⟩=>?_
 subst ex
 obtain rfl:u=Value.ref a:=rx
 exact d_in hu I2 g ry fun s3 I3=>⟨.bl ov.isSome,H2,I3,rfl,q2⟩
theorem aQ5 (hu:X.A.units+1 < cLine) (hi:PE X i ty) (ho:PE X o td):PC X .NotIn i o (aQc ty td):=by
 intro pins s σ H Q I h
 refine thn (hi pins s σ H _ I h) fun iv s1 ⟨y,H1,I1,ry,q1⟩=>thn (ho pins s1 σ H1 _ I1 q1) fun u s2 ⟨x,H2,I2,rx,a,ov,ex,g,q2⟩=>?_
 subst ex
 obtain rfl:u=Value.ref a:=rx
 exact aXt hu I2 g ry fun s3 I3=>⟨.bl (!ov.isSome),H2,I3,rfl,q2⟩
theorem aE5 (hu:X.A.units+1 < cLine) (ho:PE X o td) (hi:PE X i ty) (hv:PE X value tv) (hs:swapsWith value (some (.Subscript o i pos')) pos.line X.env=pure false) :
  PS X (.Assign [.Subscript o i pos'] value pos) (aYz td ty tv):=by
 intro pins s σ H D I h
 refine wpAny_Assign_Subscript (thn (hv pins s σ H _ I h) fun r s1 ⟨v,H1,I1,rv,q1⟩=>thn (ho pins s1 σ H1 _ I1 q1) fun u s2 ⟨x,H2,I2,rx,q2⟩=>thn (hi pins s2 σ H2 _ I2 q2) fun iv s3 ⟨y,H3,I3,ry,a,H4,ex,g,q3⟩=>?_) hs
 subst ex
 obtain rfl:u=Value.ref a:=rx
 exact aSf hu I3 g ry rv fun s4 I4=>⟨σ,H4,I4,q3⟩
end
theorem aOu {P:Program} {w:World} {H:Hp} (h:Heap) (hb:sysModules < h.objs.size):aCd P w H (h.push { cls:=.type "dict",data:=.dict #[] }) h.objs.size (.dK []) :=
 ⟨Nat.zero_le _,beq_eq_false_iff_ne.mpr (Ne.symm (Nat.ne_of_lt hb)),[],.nil,Heap.DictOf.new h⟩
noncomputable def aUp:TE:=fun _ H Q=>∀ p,H p=none->Q (.ref p) (upd H p (.dK []))
section
variable {X:Cx} {pos:Pos}
theorem aOk:PE X (.Dict [] [] pos) aUp:=fun pins s σ H Q I h =>
 wpAny_Dict_empty ⟨.ref s.heap.objs.size,_,I.laid (a:=s.heap.objs.size) (o:=.dK []) (t':=s.toks) (fun _ _ q=>Heap.get?_push_of_some _ q) (Nat.le_refl _) (aOu s.heap I.big),rfl,h _ (I.hok.fresh (Nat.le_refl _))⟩
end
noncomputable def aQa:List (TE×TE)->St->Hp->(List (V×V)->Hp->Prop)->Prop
 | [],_,H,Q=>Q [] H
 | (tk,tv)::r,σ,H,Q=>tk σ H fun x H1=>tv σ H1 fun y H2=>aQa r σ H2 fun ps H3=>Q ((x,y)::ps) H3
noncomputable abbrev VV:List (V×V)->List (Value×Value)->Prop:=Paired fun p q=>aB6 p.1 q.1/\aB6 p.2 q.2
noncomputable def PPs (X:Cx) (pos:Pos) (keys:List (Option Expr)) (values:List Expr) (trs:List (TE×TE)):Prop :=
 ∀ (pins:List (Addr×Obj)) (s:Shared) (σ:St) (H:Hp) (Q:List (V×V)->Hp->Prop),Inv X pins σ H s->aQa trs σ H Q ->
  wpAny (model X.prog X.w) X.A (evalPairs (pairTrees keys values X.env pos)) (fun vs s'=>∃ ps H',Inv X pins σ H' s'/\VV ps vs/\Q ps H') X.xe s
theorem aWm {X:Cx} {pos:Pos}:PPs X pos [] [] []:=fun pins s σ H Q I h=>pairTrees_nil_walk ⟨[],H,I,.nil,h⟩
theorem aG3 {X:Cx} {pos:Pos} {k v:Expr} {ks:List (Option Expr)} {vs:List Expr} {tk tv:TE} {trs:List (TE×TE)} (hk:PE X k tk) (hv:PE X v tv) (hr:PPs X pos ks vs trs) :
  PPs X pos (some k::ks) (v::vs) ((tk,tv)::trs):=fun pins s σ H Q I h =>
 pairTrees_cons_walk (thn (hk pins s σ H _ I h) fun u s1 ⟨x,H1,I1,rx,q1⟩=>thn (hv pins s1 σ H1 _ I1 q1) fun w2 s2 ⟨y,H2,I2,ry,q2⟩ =>
  thn (hr pins s2 σ H2 _ I2 q2) fun ws s3 ⟨ps,H3,I3,rel,q3⟩=>⟨(x,y)::ps,H3,I3,.cons ⟨rx,ry⟩ rel,q3⟩)
noncomputable def aFn (kvs more:List (Key×V)):List (Key×V):=more.foldl (fun acc kv=>aEu acc kv.1 kv.2) kvs
theorem KV.merge:∀ {more:List (Key×V)} {rs:List (Key×Value)} {kvs:List (Key×V)} {vs:List (Key×Value)},KV more rs->KV kvs vs->KV (aFn kvs more) (merged vs rs):=by
 intro more rs kvs vs r
 unfold KV at r
 induction r generalizing kvs vs with
 | nil=>intro q; exact q
 | @cons p q ps qs h t ih =>
  intro r0
  have e:KV (aEu kvs p.1 p.2) (stored vs q.1 q.2):=by
   have:=r0.put p.1 h.2
   rw [← h.1]; exact this
  exact ih e
theorem aFq:∀ (more kvs:List (Key×V)),(aFn kvs more).length<=kvs.length+more.length
 | [],kvs=>by show kvs.length<=kvs.length+0; omega
 | p::r,kvs=>by
  have h1:=aFq r (aEu kvs p.1 p.2)
  have h2:=aE9 kvs p.1 p.2
  show (aFn (aEu kvs p.1 p.2) r).length<=_
  rw [List.length_cons]; omega
theorem aJd {P:Program} {w:World}:∀ {kvs:List (Key×V)} {ws:List (Value×Value)},VV (kvs.map fun kv=>(kV kv.1,kv.2)) ws->∃ rs,Carries (aB5 P w) ws rs/\KV kvs rs
 | [],_,r=>by rw [List.map_nil] at r; cases r; exact ⟨[],True.intro,.nil⟩
 | p::kvs,_,r=>by
  rw [List.map_cons] at r
  cases r with
  | @cons a b as bs h t =>
   obtain ⟨rs,c,q⟩:=aJd (P:=P) (w:=w) t
   obtain ⟨b1,b2⟩:=b
   exact ⟨(p.1,b2)::rs,⟨aKi h.1,rfl,c⟩,.cons ⟨rfl,h.2⟩ q⟩
noncomputable def aYp (trs:List (TE×TE)):TE:=fun σ H Q=>∀ p,H p=none->aQa trs σ (upd H p (.dK [])) fun ps H2=>H2 p=some (.dK [])/\∃ kvs:List (Key×V),ps=kvs.map (fun kv=>(kV kv.1,kv.2))/\kvs.length<=15/\Q (.ref p) (upd H2 p (.dK (aFn [] kvs)))
theorem aWs {X:Cx} {pos:Pos} {keys:List (Option Expr)} {values:List Expr} {trs:List (TE×TE)} (h:PPs X pos keys values trs) (hall:keys.all (·.isSome)=true) (hl:keys.length=values.length) (h0:keys≠[])
  (h15:keys.length<=15):PE X (.Dict keys values pos) (aYp trs):=by
 intro pins s σ H Q I q
 have hn:=I.hok.fresh (Nat.le_refl s.heap.objs.size)
 have I1:=I.laid (a:=s.heap.objs.size) (o:=.dK []) (h':=s.heap.push { cls:=.type "dict",data:=.dict #[] }) (t':=s.toks) (fun _ _ q=>Heap.get?_push_of_some _ q) (Nat.le_refl _) (aOu s.heap I.big)
 refine wpAny_Dict_walk (knd:=aB5 X.prog X.w) hall hl h0 h15 (thn (h pins _ σ _ _ I1 (q _ hn)) fun ws s2 ⟨ps,H2,I2,rel,e,kvs,ep,lk,q2⟩=>?_)
 subst ep
 obtain ⟨rs,c,rk⟩:=aJd (P:=X.prog) (w:=X.w) rel
 obtain ⟨z,hd,vs0,r0,dd⟩:=bB8 I2.hok e
 cases r0
 refine ⟨rs,c,dd,fun h' dd' hs=>⟨.ref s.heap.objs.size,_,?_,rfl,q2⟩⟩
 have hz:(aFn [] kvs).length<=sizeLine:=by
  have h1:=aFq kvs []
  rw [List.length_nil] at h1
  rw [sizeLine_eq]; omega
 have he:∃ q,h'.get? s.heap.objs.size=some q:=let ⟨q,_,_,hq,_⟩:=dd'; ⟨q,hq⟩
 exact aNk I2 (by rw [e]; exact True.intro) hs he (aVg hz hd (rk.merge .nil) dd')
structure M1 (X:Cx) (o:Expr) (m:Str) (apos:Pos) (e:Expr) (cpos:Pos):Prop where
 base:attributeBase o m X.env (eval o X.env)=eval o X.env
 few:((backTo cpos (starEach [e] X.env)).all (fun x=>!x.1)&&(backToKw cpos (keywordEach [] X.env)).all (fun x=>x.1.isSome)
  && decide (([e]:List Expr).length+([]:List Keyword).length+(if ([]:List Keyword).isEmpty then 0 else 1) < 30))=true
 line:(apos.endLine==cpos.line)=true
 trees:backTo cpos (starEach [e] X.env)=[(false,eval e X.env)]
noncomputable def IsD (H:Hp) (a:Addr):Prop:=(∃ kvs,Rd H a (.dK kvs))∨∃ kvs,Rd H a (.dT kvs)
theorem bBr {X:Cx} {pins:List (Addr×Obj)} {σ:St} {H:Hp} {s:Shared} {a:Addr} (I:Inv X pins σ H s) (d:IsD H a) :
  s.TypeIs (.ref a) "dict"/\(∀ b,Value.ref a=.ref b->∃ ob,s.heap.get? b=some ob/\ob.dict=none)/\(a==sysModules)=false:=by
 rcases d with ⟨kvs,e⟩ | ⟨kvs,e⟩
 ·obtain ⟨_,hd,vs,_,dd⟩:=aNi I.hok e
  refine ⟨dd.typeIs,fun b q=>?_,hd⟩
  cases q
  obtain ⟨ob,_,_,h1,h2,_⟩:=dd
  exact ⟨ob,h1,h2.2.1⟩
 ·obtain ⟨_,hd,xs,_,dd⟩:=aNh I.hok e
  refine ⟨dd.typeIs,fun b q=>?_,hd⟩
  cases q
  obtain ⟨ob,_,_,h1,h2,_⟩:=dd
  exact ⟨ob,h1,h2.2.1⟩
section
variable {X:Cx} {pins:List (Addr×Obj)} {σ:St} {H:Hp} {s:Shared} {a:Addr} {y d:V} {u r:Value} {o:Option V} {A:Around} {E:Value -> Shared -> Prop}
theorem bB9 {Q:Value->Shared->Prop} (hu:A.units+1 < cLine) (I:Inv X pins σ H s) (g:aPw H a y o) (ry:aB6 y u) (h:∀ w' s',Inv X pins σ H s'->aB6 (o.getD .non) w'->Q w' s') :
  wpAny (model X.prog X.w) A (call (.builtin "dict.get") [.ref a,u]) Q E s:=by
 rcases g with ⟨kvs,k,e,ey,l⟩ | ⟨kvs,k,b,e,ey,eb,l⟩
 ·subst ey
  obtain ⟨z,hd,vs,rel,dd⟩:=aNi I.hok e
  refine call_meetsIn PySem.F.slot_dict_get dd.typeIs PySem.F.entry_dict_get (PySem.F.args_dict_get_2 _ _) (meets_dict_get (aB5 X.prog X.w) a (aKi ry) hd) ⟨_,dd.mapOf,h _ _ (I.tok _) ?_⟩
  rw [l]
  exact (rel.val k).getD rfl
 ·subst ey
  cases (show u=Value.ref b from ry)
  obtain ⟨z,hd,xs,rel,dd⟩:=aNh I.hok e
  refine call_meetsIn PySem.F.slot_dict_get dd.typeIs PySem.F.entry_dict_get (PySem.F.args_dict_get_2 _ _) (meetsH_dict_get (tupleKind (aB5 X.prog X.w)) a b hd) ⟨tupleKind_room_in1 hu,k,xs,aI9 I.hok eb,dd,h _ _ (I.tok _) ?_⟩
  rw [l]
  exact (rel.val k).getD rfl
end
noncomputable def aUq (td ty:TE):TE:=fun σ H Q=>td σ H fun x H1=>∃ a,x=.ref a/\IsD H1 a/\ty σ H1 fun y H2=>∃ o,aPw H2 a y o/\Q (o.getD .non) H2
section
variable {X:Cx} {o e f:Expr} {apos cpos:Pos} {td ty tx:TE}
theorem aTo (hu:X.A.units+1 < cLine) (ho:PE X o td) (he:PE X e ty) (m:M1 X o "get" apos e cpos):PE X (.Call (.Attribute o "get" apos) [e] [] cpos) (aUq td ty):=by
 intro pins s σ H Q I h
 refine wpAny_Call_method m.base m.few m.line PySem.F.plainAttrs_dict PySem.F.slot_dict_get PySem.F.type_dict_get (thn (ho pins s σ H _ I h) fun u s1 ⟨x,H1,I1,rx,a,ex,d,q1⟩=>?_)
 subst ex
 obtain rfl:u=Value.ref a:=rx
 obtain ⟨t1,t2,_⟩:=bBr I1 d
 refine ⟨t1,t2,?_⟩
 rw [m.trees]
 refine Calls.callWith_builtin rfl (Calls.evalArgs_plain (Calls.spliced_cons (thn (he pins s1 σ H1 _ I1 q1) fun iv s2 ⟨y,H2,I2,ry,ov,g,q2⟩=>Calls.spliced_nil ?_)))
 exact bB9 hu I2 g ry fun w' s3 I3 rw'=>⟨_,H2,I3,rw',q2⟩
end
section
variable {X:Cx} {pins:List (Addr×Obj)} {σ:St} {H:Hp} {s:Shared} {a:Addr} {kvs:List (Key×V)} {A:Around} {E:Value -> Shared -> Prop}
end
section
variable {X:Cx} {pins:List (Addr×Obj)} {σ:St} {H:Hp} {s:Shared} {a:Addr} {y:V} {u:Value} {A:Around} {E:Value -> Shared -> Prop}
end
end L2
namespace L2
open PySem PySem.Spec PyProof.Rows
section
variable {κ:Type} [DecidableEq κ]
end
end L2
namespace L2
open PySem PySem.Spec PyProof.Rows
noncomputable def Sm (n:Nat) (x:Int):Prop:=x.natAbs < 2 ^ n
theorem Sm.mono {m n:Nat} {x:Int} (h:Sm m x) (l:m<=n):Sm n x:=Nat.lt_of_lt_of_le h (Nat.pow_le_pow_right (by decide) l)
theorem Sm.bits {n:Nat} {x:Int} (h:Sm n x):Builtin.Int.intBits x<=n:=by
  unfold Builtin.Int.intBits
  split
  . exact Nat.zero_le _
  . have hn:x.natAbs < 2 ^ n:=h
    rename_i hx
    have h0 : x.natAbs ≠ 0 := fun e => hx (by have : x = 0 := by omega
                                              rw [this]; rfl)
    have:x.natAbs.log2 < n:=(Nat.log2_lt h0).mpr hn
    omega
theorem Sm.mulOk {a b:Int} {m n:Nat} (ha:Sm m a) (hb:Sm n b) (h:m+n<=134217728):IntMulOk a b:=PyProof.Rows.mulOk_of_bits ha.bits hb.bits h
theorem Sm.log2 {n:Nat} {x:Int} (h:Sm n x):x.natAbs.log2 < n+1:=by
 have hn:x.natAbs < 2 ^ n:=h
 by_cases h0:x.natAbs=0
 ·rw [h0,Nat.log2_zero]; omega
 ·have:=(Nat.log2_lt h0).mpr hn
  omega
theorem Sm.of {n:Nat} {x:Int} (h1:-(2 ^ n:Nat) < x) (h2:x < (2 ^ n:Nat)):Sm n x:=by
 unfold Sm
 generalize 2 ^ n=k at *
 omega
theorem Sm.le {a b:Int} {n:Nat} (h:a.natAbs<=b.natAbs) (hb:Sm n b):Sm n a:=Nat.lt_of_le_of_lt h hb
section
variable {X:Cx}
noncomputable def aMh (_ j:Int):Prop:=j≠0/\Sm 8000 j
theorem aAw:OpR X (binaryOp .FloorDiv) (rI aMh fun i j=>.int (i.fdiv j)):=opI fun _ _ _ _ _ _ _ hc q=>floordiv_int hc.1 q (.inl (PyProof.noPylong_of_log2 (Nat.lt_trans hc.2.log2 (by decide))))
noncomputable def aGe (i j:Int):Prop:=CMul i j∨(Sm 60000000 i/\Sm 60000000 j)
theorem aGe.ok {i j:Int} (h:aGe i j):IntMulOk i j:=by
 rcases h with h | ⟨h1,h2⟩
 ·exact h.ok
 ·exact h1.mulOk h2 (by decide)
theorem aGe.l {i j:Int} (h1:-(2 ^ 64) < i) (h2:i < 2 ^ 64):aGe i j:=.inl (.inl ⟨h1,h2⟩)
theorem aGe.r {i j:Int} (h1:-(2 ^ 64) < j) (h2:j < 2 ^ 64):aGe i j:=.inl (.inr ⟨h1,h2⟩)
theorem aCm:OpR X (binaryOp .Mult) (rI aGe fun i j=>.int (i * j)):=opI fun _ _ _ _ _ _ _ hc q=>mul_int q hc.ok
noncomputable def bAm (K:PySem.W.Frag) (T:String):List V->Hp->VK->Prop:=fun xs H Q=>∃ x t b,xs=[x,.ty T]/\aIm K H x t/\PySem.W.kitOne K t (.type T)=some b/\Q (.bl b) H
theorem aEm {T:String}:aDm X (.builtin "isinstance") (bAm X.K T):=by
 intro pins s σ H xs us Q I r h
 obtain ⟨x,t,b,rfl,ty,e,q⟩:=h
 obtain ⟨u,v,rfl,ru,rv⟩:=aB0.two r
 obtain rfl:v=Value.type T:=rv
 exact aRy I ru ty e fun tk=>⟨.bl b,H,I.tok tk,rfl,q⟩
end
section
variable {σ:St} {H H':Hp} {Q:VK} {D:aEx} {t u:TS} {te ta tb:TE} {v w x:V} {i j:Int} {b c:Bool} {X:Cx} {K:PySem.W.Frag}
theorem r_var {n:Nat} (h:σ[n]?=some (some v)) (k:Q v H):tVar n σ H Q:=⟨v,h,k⟩
theorem r_c (k:Q v H):tC v σ H Q:=k
theorem aMt (k:t ⟨u D,D.rt,D.bk,D.ct⟩ σ H):tSeq t u D σ H:=k
theorem aUy {n r b' c'} (k:n σ H):aEx.nx ⟨n,r,b',c'⟩ σ H:=k
theorem r_rt {n r b' c'} (k:r v H):aEx.rt ⟨n,r,b',c'⟩ v H:=k
theorem aZh (k:D.nx σ H):aYj D σ H:=k
theorem r_asg {g:TG} (k:te σ H fun x H1=>g x σ H1 D.nx):tAsg te g D σ H:=k
theorem aMv {n:Nat} {R:St->Hp->Prop} (k:R (σ.set n (some v)) H):aGr n v σ H R:=k
theorem r_op {r:R2} (k:ta σ H fun x H1=>tb σ H1 fun y H2=>r x y H2 Q):tOp r ta tb σ H Q:=k
theorem r_I0 {g} (k:Q (g i j) H):rI0 g (.int i) (.int j) H Q:=⟨i,j,rfl,rfl,k⟩
theorem r_I {C g} (c:C i j) (k:Q (g i j) H):rI C g (.int i) (.int j) H Q:=⟨i,j,rfl,rfl,c,k⟩
noncomputable def bK (R:Bool->Hp->Prop):VK:=fun x H=>∃ k,x=.bl k/\R k H
theorem r_bK {R:Bool->Hp->Prop} (k:R b H):bK R (.bl b) H:=⟨b,rfl,k⟩
theorem aY5 {R:Bool->Hp->Prop} (k:te σ H (bK R)):aVv te σ H R:=k
theorem r_tB {R:Bool->Hp->Prop} (k:te σ H (bK R)):tB te σ H R:=k
theorem r_ifS {tc:TT} (k:tc σ H fun b H1=>if b=true then t D σ H1 else u D σ H1):tIfS tc t u D σ H:=k
theorem r_if {tc:TT} (k:tc σ H fun b H1=>if b=true then ta σ H1 Q else tb σ H1 Q):tIf tc ta tb σ H Q:=k
theorem r_and {ca cb:TT} {R:Bool->Hp->Prop} (k:ca σ H fun c H1=>if c=true then cb σ H1 R else R false H1):tAnd ca cb σ H R:=k
theorem r_or {ca cb:TT} {R:Bool->Hp->Prop} (k:ca σ H fun c H1=>if c=true then R true H1 else cb σ H1 R):tOr ca cb σ H R:=k
theorem r_not {ca:TT} {R:Bool->Hp->Prop} (k:ca σ H fun c H1=>R (!c) H1):tNot ca σ H R:=k
noncomputable def andK (tb:TE) (σ:St) (Q:VK):VK:=fun x H1=>∃ c,x=.bl c/\if c=true then tb σ H1 Q else Q (.bl false) H1
noncomputable def notK (Q:VK):VK:=fun x H1=>∃ c,x=.bl c/\Q (.bl (!c)) H1
theorem bAe (k:ta σ H (andK tb σ Q)):aYs ta tb σ H Q:=k
theorem aZc (k:ta σ H (notK Q)):aYi ta σ H Q:=k
theorem bAf (k:if c=true then tb σ H Q else Q (.bl false) H):andK tb σ Q (.bl c) H:=⟨c,rfl,k⟩
theorem aZd (k:Q (.bl (!c)) H):notK Q (.bl c) H:=⟨c,rfl,k⟩
theorem r_ret (k:te σ H D.rt):tRet te D σ H:=k
theorem aZ2 (k:te σ H fun _ H1=>D.nx σ H1):aYo te D σ H:=k
theorem r_nil {R:List V->Hp->Prop} (k:R [] H):tNil σ H R:=k
theorem aZ7 {tr:TA} {R:List V->Hp->Prop} (k:ta σ H fun x H1=>tr σ H1 fun xs H2=>R (x::xs) H2):aYr ta tr σ H R:=k
noncomputable def tupK (Q:VK):List V->Hp->Prop:=fun xs H1=>xs.length<=sizeLine/\∀ p,H1 p=none->Q (.ref p) (upd H1 p (.tup xs))
noncomputable def bBg (Q:VK):List V->Hp->Prop:=fun xs H1=>xs.length<=sizeLine/\∀ p,H1 p=none->Q (.ref p) (upd H1 p (.lst xs))
theorem aH2 {n:Nat} (h:n<=1000):n<=sizeLine:=Nat.le_of_lt (aC4 h)
theorem r_tup {tr:TA} (k:tr σ H (tupK Q)):tTup tr σ H Q:=k
theorem r_lst {tr:TA} (k:tr σ H (bBg Q)):tLst tr σ H Q:=k
theorem aBr {xs:List V} (k:∀ p,H p=none->Q (.ref p) (upd H p (.tup xs))) (h:xs.length<=1000:=by exact Nat.le_of_ble_eq_true rfl):tupK Q xs H:=⟨aH2 h,k⟩
theorem aA2 {xs:List V} (k:∀ p,H p=none->Q (.ref p) (upd H p (.lst xs))) (h:xs.length<=1000:=by exact Nat.le_of_ble_eq_true rfl):bBg Q xs H:=⟨aH2 h,k⟩
theorem bAd {sp:Sp} {E:XK} {tr:TA} (k:tr σ H fun vs H1=>sp vs H1 Q E):aS5 sp [] E tr σ H Q:=by
 show tr σ H fun vs H1=>sp (vs++[]) H1 Q E
 have e:(fun (vs:List V) H1=>sp (vs++[]) H1 Q E)=fun vs H1=>sp vs H1 Q E:=by
  funext vs H1
  rw [List.append_nil]
 rw [e]; exact k
theorem r_CB {r} {tr:TA} (k:tr σ H fun vs H1=>r vs H1 Q):tCB r tr σ H Q:=k
theorem r_par {n m:Nat} {ta:TA} (k:ta σ H fun vs H1=>∃ v w,vs=[v,w]/\D.nx ((σ.set n (some v)).set m (some w)) H1):tPar n m ta D σ H:=k
theorem r_eqI (k:Q (.bl (decide (i=j))) H):rEq (.int i) (.int j) H Q:=⟨rfl,by rw [aKo,Bool.beq_eq_decide_eq]; exact k⟩
theorem r_neI (k:Q (.bl (!decide (i=j))) H):rNe (.int i) (.int j) H Q:=⟨rfl,by rw [aKo,Bool.beq_eq_decide_eq]; exact k⟩
theorem aZr {p:Addr} {xs:List V} (h:SqL K H p xs) (e:atI xs i=some v) (k:Q v H):rIxL K (.ref p) (.int i) H Q:=⟨p,xs,i,v,rfl,rfl,h,e,k⟩
theorem r_ixT {p:Addr} {xs:List V} (h:SqT K H p xs) (e:atI xs i=some v) (k:Q v H):rIxT K (.ref p) (.int i) H Q:=⟨p,xs,i,v,rfl,rfl,h,e,k⟩
noncomputable def aPc (K:PySem.W.Frag):R2:=fun x y H Q=>rIxL K x y H Q∨rIxT K x y H Q∨rIxS x y H Q
theorem aAt:IxR X (aPc X.K):=bBq
theorem aBa {p:Addr} {xs:List V} (h:H p=some (.lst xs)) (e:atI xs i=some v) (k:Q v H):aPc K (.ref p) (.int i) H Q:=.inl (aZr (SqL.of h) e k)
theorem aZq {p:Addr} {xs:List V} (h:H p=some (.tup xs)) (e:atI xs i=some v) (k:Q v H):aPc K (.ref p) (.int i) H Q:=.inr (.inl (r_ixT (SqT.of h) e k))
theorem i_T {A B:Prop} (h:A):if true=true then A else B:=iteT h
theorem i_F {A B:Prop} (h:B):if false=true then A else B:=iteF h
theorem i_dT {p A B:Prop} [Decidable p] (hp:p) (h:A):if decide p=true then A else B:=by rw [decide_eq_true hp]; exact iteT h
theorem i_dF {p A B:Prop} [Decidable p] (hp:¬ p) (h:B):if decide p=true then A else B:=by rw [decide_eq_false hp]; exact iteF h
theorem i_d {p A B:Prop} [Decidable p] (h1:p->A) (h2:¬ p->B):if decide p=true then A else B:=by
 by_cases h:p
 ·exact i_dT h (h1 h)
 ·exact i_dF h (h2 h)
theorem bBt {A B:Prop} (h:if b=true then B else A):if (!b)=true then A else B:=by cases b <;> exact h
theorem i_bT {A B:Prop} (hb:b=true) (h:A):if b=true then A else B:=by rw [hb]; exact i_T h
theorem aX7 {A B:Prop} (hb:b=false) (h:B):if b=true then A else B:=by rw [hb]; exact i_F h
end
noncomputable def Kp (p:Addr) (H H':Hp):Prop:=∀ b o,b≠p->H b=some o->H' b=some o
theorem Kp.refl (p:Addr) (H:Hp):Kp p H H:=fun _ _ _ h=>h
theorem Kp.trans {p:Addr} {H H1 H2:Hp} (a:Kp p H H1) (b:Kp p H1 H2):Kp p H H2:=fun c o n h=>b c o n (a c o n h)
theorem Kp.upd {p:Addr} {H:Hp} {o:HO}:Kp p H (upd H p o):=fun c u n h=>by rw [aBg n]; exact h
theorem Kp.new {p q:Addr} {H:Hp} {o:HO} (hq:H q=none):Kp p H (L2.upd H q o):=fun c u n h=>by rw [aBg (aAg h hq)]; exact h
theorem aAm.new {q:Addr} {H:Hp} {o:HO} (hq:H q=none):aAm H (upd H q o):=fun c u h=>by rw [aBg (aAg h hq)]; exact h
theorem aAm.kp {p:Addr} {H H':Hp} (s:aAm H H'):Kp p H H':=fun c o _ h=>s c o h
theorem aAm.kpn {p:Addr} {H H2 H3:Hp} (h:H p=none) (a:aAm H H2) (k:Kp p H2 H3):aAm H H3:=fun c o e=>k c o (aAg e h) (a c o e)
noncomputable def St3 (H:Hp) (p:Addr) (n:Int):Prop:=∃ a b c:Int,H p=some (.lst [.int a,.int b,.int c])/\0<=a/\0<=b/\b<=n
structure Df (K:PySem.W.Frag) (mg:Str->Option Value) (x:Str) (st:Stmt) (ps:List Str):Prop where
 ex:∃ (f:Addr) (fd:FuncData),(∃ (oc:Value) (od:Option Addr) (dV kV doc pm:Value) (an:Option Addr) (cdv ct:Value) (osl:Array (Option Value)),
  fd=PySem.W.fnOf x x (aDa st) (aCn st) (aAh st) dV kV doc pm an cdv ct/\K.lookup f=some ⟨oc,od,.func fd,osl⟩/\PySem.W.codeIn K cdv x=true)/\PySem.W.keepIn K (.ref f)=true/\mg x=some (.ref f)/\aKt K fd ps []
structure Okf (P:Program) (w:World) (K:PySem.W.Frag) (mg:Str->Option Value) (base:Heap) (k:Nat) (x:Str) (ps:List Str) (sp:Sp):Prop where
 ex:∃ (f:Addr) (fd:FuncData),mg x=some (.ref f)/\PySem.W.keepIn K (.ref f)=true/\aKt K fd ps []/\aNp P w K mg base CX0 k f fd ps sp
theorem Okf.mono {P:Program} {w:World} {K:PySem.W.Frag} {mg:Str->Option Value} {base:Heap} {j k:Nat} {x:Str} {ps:List Str} {sp:Sp} (o:Okf P w K mg base j x ps sp) (h:j<=k):Okf P w K mg base k x ps sp :=
 let ⟨f,fd,a,b,c,d⟩:=o.ex; ⟨f,fd,a,b,c,d.mono h⟩
theorem Okf.of {P:Program} {w:World} {K:PySem.W.Frag} {mg:Str->Option Value} {base:Heap} {k:Nat} {x:Str} {st:Stmt} {N ps:List Str} {sp:Sp} (d:Df K mg x st ps) (S:aAv N ps (aAh st)) (len:∀ vs H Q E,sp vs H Q E->vs.length=ps.length)
  (hbody:∀ (f:Addr) (cdv:Value) (A:Around) (outer:List Env) (s:Shared) (H:Hp) (vs:List V) (Q:VK) (E:XK),aGu k (A.deeper (envOfC x (aAh st) s.heap.objs.size f cdv))->sp vs H Q E ->
   ∃ t,PSs (aPy CX0 P w K mg base N x (aAh st) f cdv A outer s H E).nox (aCn st) t/\t { nx:=fun _ H'=>Q .non H',rt:=Q } (aIn N vs) H):Okf P w K mg base (k+1) x ps sp:=by
 obtain ⟨f,fd,⟨oc,od,dV,kV,doc,pm,an,cdv,ct,osl,rfl,lk,hcd⟩,kp,a,b⟩:=d.ex
 refine ⟨f,_,a,kp,b,aXk lk hcd S len fun A outer s H vs Q E hr hsp=>?_⟩
 obtain ⟨t,h,q⟩:=hbody f cdv A outer s H vs Q E hr hsp
 exact ⟨t,h.nox,q⟩
theorem df_mk {K:PySem.W.Frag} {mg:Str->Option Value} {h:Heap} {x:Str} {st:Stmt} {ps:List Str} {f:Addr} {oc:Value} {od an:Option Addr} {osl:Array (Option Value)} {dV kV doc pm cdv ct:Value} (X:K.In h) (G:h.Ns mainGlobals mg)
  (a:PySem.W.nsIn K mainGlobals x=some (some (.ref f))) (l:K.lookup f=some ⟨oc,od,.func (PySem.W.fnOf x x (aDa st) (aCn st) (aAh st) dV kV doc pm an cdv ct),osl⟩)
  (c:PySem.W.codeIn K cdv x=true) (k:PySem.W.keepIn K (.ref f)=true)
  (b:∀ us:List Value,us.length=ps.length->bindArgs (PySem.W.fnOf x x (aDa st) (aCn st) (aAh st) dV kV doc pm an cdv ct) ⟨us,[]⟩=pure (ps.zip us)):Df K mg x st ps :=
 ⟨f,_,⟨oc,od,dV,kV,doc,pm,an,cdv,ct,osl,rfl,l,c⟩,k,PySem.W.mg_of X G a,.all b⟩
section
variable {X:Cx} {k:Nat} {x:Str} {ps:List Str} {dvs:List V} {sp:Sp} {p pos:Pos} {e:Expr} {es:List Expr} {t:TA}
end
section
variable {X:Cx} {k:Nat} {x:Str} {ps:List Str} {sp:Sp} {p pos:Pos} {e:Expr} {es:List Expr} {t:TA}
theorem aAn (o:Okf X.prog X.w X.K X.mg X.base k x ps sp) (hr:aGu k X.A) (hg:Gl X x) (ha:PA X (e::es) t) (hdb:(x==("__debug__":Str))=false:=by decide)
  (he:starEach (e::es) X.env=(false,eval e X.env)::starEach es X.env:=by rfl) (hpl:(backTo pos (starEach es X.env)).any (·.1)=false:=by rfl) :
  PE X (.Call (.Name x p) (e::es) [] pos) (aS5 sp [] E0 t):=by
 obtain ⟨f,fd,a,b,c,d⟩:=o.ex
 exact aQ4 d hr hg a b c .nil pass0 ha hdb he hpl
end
section
variable {σ:St} {H:Hp} {Q:VK} {D:aEx} {v:V} {i j:Int} {K:PySem.W.Frag}
theorem r_ixs {p:Addr} {xs:List V} (h:SqL K H p xs) (e:atI xs i=some v) (k:Q v H):aPc K (.ref p) (.int i) H Q:=.inl (aZr h e k)
theorem aZj (h:0 < j) (k:Q (.int (i % j)) H):rI (fun _ j=>0 < j) (fun i j=>.int (i % j)) (.int i) (.int j) H Q:=r_I h k
theorem r_mul (h:aGe i j) (k:Q (.int (i * j)) H):rI aGe (fun i j=>.int (i * j)) (.int i) (.int j) H Q:=r_I h k
theorem aMh.of (h0:0 < j) (h1:j < 2 ^ 64):aMh i j:=⟨by omega,Sm.mono (m:=64) (Sm.of (by omega) (by omega)) (by decide)⟩
theorem aQy (h:aMh i j) (k:Q (.int (i.fdiv j)) H):rI aMh (fun i j=>.int (i.fdiv j)) (.int i) (.int j) H Q:=r_I h k
theorem aV6 (k:Q (.int 1000000000000000000) H):rI CPow (fun i j=>.int (i ^ j.toNat)) (.int 10) (.int 18) H Q:=r_I ⟨by decide,by decide,by decide⟩ k
theorem aZz {to ti:TE} {t:TSet} {R:St->Hp->Prop} (k:to σ H fun o H1=>ti σ H1 fun i H2=>t o i v H2 fun H3=>R σ H3):gSub to ti t v σ H R:=k
theorem aZb {n m:Nat} {w:V} (k:D.nx ((σ.set n (some v)).set m (some w)) H):∃ v' w',[v,w]=[v',w']/\D.nx ((σ.set n (some v')).set m (some w')) H:=⟨v,w,rfl,k⟩
end
theorem aJf:bootBuiltins "int"=some (.type "int"):=by decide +kernel
theorem aXw:bootBuiltins "bool"=some (.type "bool"):=by decide +kernel
theorem aMb:bootBuiltins "str"=some (.type "str"):=by decide +kernel
theorem aCo:bootBuiltins "tuple"=some (.type "tuple"):=by decide +kernel
theorem aVj:bootBuiltins "set"=some (.type "set"):=by decide +kernel
theorem aAz:bootBuiltins "len"=some (.builtin "len"):=by decide +kernel
theorem aVm:bootBuiltins "abs"=some (.builtin "abs"):=by decide +kernel
theorem aVl:bootBuiltins "max"=some (.builtin "max"):=by decide +kernel
theorem aVk:bootBuiltins "min"=some (.builtin "min"):=by decide +kernel
theorem aBs:bootBuiltins "isinstance"=some (.builtin "isinstance"):=by decide +kernel
theorem aJg:bootBuiltins "all"=some (.builtin "all"):=by decide +kernel
structure Bl (mg:Str->Option Value):Prop where
 z_int:mg "int"=none
 z_bool:mg "bool"=none
 z_str:mg "str"=none
 z_list:mg "list"=none
 z_tuple:mg "tuple"=none
 z_dict:mg "dict"=none
 z_set:mg "set"=none
 z_range:mg "range"=none
 z_enumerate:mg "enumerate"=none
 z_zip:mg "zip"=none
 z_reversed:mg "reversed"=none
 z_len:mg "len"=none
 z_abs:mg "abs"=none
 z_max:mg "max"=none
 z_min:mg "min"=none
 z_isinstance:mg "isinstance"=none
 z_sorted:mg "sorted"=none
 z_all:mg "all"=none
 z_any:mg "any"=none
 z_sum:mg "sum"=none
section
variable {K:PySem.W.Frag} {H:Hp} {Q:VK}
theorem aKh:PySem.W.kitOne K (.type "bool") (.type "bool")=some true:=by first | rfl | with_unfolding_all rfl | decide
theorem aL2:PySem.W.kitOne K (.type "bool") (.type "int")=some true:=by first | rfl | with_unfolding_all rfl | decide
theorem aL1:PySem.W.kitOne K (.type "bool") (.type "str")=some false:=by first | rfl | with_unfolding_all rfl | decide
theorem aL0:PySem.W.kitOne K (.type "int") (.type "bool")=some false:=by first | rfl | with_unfolding_all rfl | decide
theorem aNb:PySem.W.kitOne K (.type "int") (.type "int")=some true:=by first | rfl | with_unfolding_all rfl | decide
theorem aNa:PySem.W.kitOne K (.type "int") (.type "str")=some false:=by first | rfl | with_unfolding_all rfl | decide
theorem aLy:PySem.W.kitOne K (.type "str") (.type "bool")=some false:=by first | rfl | with_unfolding_all rfl | decide
theorem aM9:PySem.W.kitOne K (.type "str") (.type "int")=some false:=by first | rfl | with_unfolding_all rfl | decide
theorem aH4:PySem.W.kitOne K (.type "str") (.type "str")=some true:=by first | rfl | with_unfolding_all rfl | decide
theorem aKg:PySem.W.kitOne K (.type "tuple") (.type "str")=some false:=by first | rfl | with_unfolding_all rfl | decide
theorem aEk:PySem.W.kitOne K (.type "tuple") (.type "tuple")=some true:=by first | rfl | with_unfolding_all rfl | decide
theorem aLz:PySem.W.kitOne K (.type "list") (.type "str")=some false:=by first | rfl | with_unfolding_all rfl | decide
theorem aF9:PySem.W.kitOne K (.type "NoneType") (.type "bool")=some false:=by first | rfl | with_unfolding_all rfl | decide
theorem aGq:PySem.W.kitOne K (.type "NoneType") (.type "int")=some false:=by first | rfl | with_unfolding_all rfl | decide
theorem aGp:PySem.W.kitOne K (.type "NoneType") (.type "str")=some false:=by first | rfl | with_unfolding_all rfl | decide
theorem aFj {T:String} {x:V} {t:Value} {b:Bool} (ty:aIm K H x t) (e:PySem.W.kitOne K t (.type T)=some b) (k:Q (.bl b) H):bAm K T [x,.ty T] H Q:=⟨x,t,b,rfl,ty,e,k⟩
end
section
variable {X:Cx} {K:PySem.W.Frag} {σ:St} {H:Hp} {Q:VK} {D:aEx} {i j:Int} {b:Bool}
noncomputable def rAbs:List V->Hp->VK->Prop:=fun xs H Q=>∃ i,xs=[.int i]/\Q (.int (if i < 0 then -i else i)) H
theorem bCd:aDm X (.builtin "abs") rAbs:=aUh
theorem r_abs (k:Q (.int (if i < 0 then -i else i)) H):rAbs [.int i] H Q:=⟨i,rfl,k⟩
noncomputable def bAj:List V->Hp->VK->Prop:=fun xs H Q=>∃ i j,xs=[.int i,.int j]/\Q (.int (if j > i then j else i)) H
theorem bCc (hc:X.calm=true):aDm X (.builtin "max") bAj:=aSp hc
theorem r_max (k:Q (.int (if j > i then j else i)) H):bAj [.int i,.int j] H Q:=⟨i,j,rfl,k⟩
noncomputable def bAi:List V->Hp->VK->Prop:=fun xs H Q=>∃ i j,xs=[.int i,.int j]/\Q (.int (if j < i then j else i)) H
theorem bCb (hc:X.calm=true):aDm X (.builtin "min") bAi:=aSo hc
theorem r_min (k:Q (.int (if j < i then j else i)) H):bAi [.int i,.int j] H Q:=⟨i,j,rfl,k⟩
noncomputable def bAk (K:PySem.W.Frag):List V->Hp->VK->Prop:=fun xs H Q=>∃ x n,xs=[x]/\LenV K x H n/\Q (.int n) H
theorem aBo:aDm X (.builtin "len") (bAk X.K):=aUg
theorem aOf {p:Addr} {xs:List V} (h:SqL K H p xs) (k:Q (.int xs.length) H):bAk K [.ref p] H Q:=⟨_,_,rfl,.inl ⟨xs,h,rfl⟩,k⟩
theorem aZm {p:Addr} {xs:List V} (h:H p=some (.lst xs)) (k:Q (.int xs.length) H):bAk K [.ref p] H Q:=aOf (SqL.of h) k
theorem aZl {p:Addr} {xs:List V} (h:H p=some (.tup xs)) (k:Q (.int xs.length) H):bAk K [.ref p] H Q:=⟨_,_,rfl,.inr ⟨xs,SqT.of h,rfl⟩,k⟩
theorem aI4 {x:Str} (h:x.length<=sizeLine) (k:Q (.int x.length) H):bAk K [.str x] H Q:=⟨_,_,rfl,⟨h,rfl⟩,k⟩
noncomputable def bAn:List V->Hp->VK->Prop:=fun xs H Q=>(∃ i,xs=[.int i]/\Q (.int i) H)∨∃ k,xs=[.bl k]/\Q (.int (if k then 1 else 0)) H
theorem c_int:aDm X (.type "int") bAn:=aSr
theorem aZw (k:Q (.int (if b then 1 else 0)) H):bAn [.bl b] H Q:=.inr ⟨b,rfl,k⟩
noncomputable def aXj (g:TG) (tb:TS) (D:aEx) (σ:St):It->Hp->Prop:=fun J H1=>∃ W:Nat->Nat->St->Hp->Prop,(∃ m,W 0 m σ H1)/\∀ i m σ H,W i m σ H ->
 (J.stop i H/\D.nx σ H)∨(J.go i H/\∃ N:St->Hp->Prop,(∀ σ' H',N σ' H'->∃ m',m' < m/\W (i+1) m' σ' H')/\∀ x H',J.yld i H x H'->g x σ H' fun σ2 H2=>tb { D with nx:=N,ct:=N,bk:=D.nx } σ2 H2)
theorem r_for {wi:TI} {g:TG} {tb:TS} (k:wi σ H (aXj g tb D σ)):tFor wi g tb D σ H:=k
noncomputable def aY2 (R:It->Hp->Prop):List V->Hp->Prop:=fun vs H1=>∃ j:Int,vs=[.int j]/\-(2 ^ 62)<=j/\j < 2 ^ 62/\R (Itr 0 j.toNat) H1
noncomputable def aY1 (R:It->Hp->Prop):List V->Hp->Prop:=fun vs H1=>∃ i j:Int,vs=[.int i,.int j]/\(-(2 ^ 62)<=i/\i < 2 ^ 62/\-(2 ^ 62)<=j/\j < 2 ^ 62)/\R (Itr i (j - i).toNat) H1
theorem aY8 {ta:TA} {R:It->Hp->Prop} (k:ta σ H (aY2 R)):bBv ta σ H R:=k
theorem aY7 {ta:TA} {R:It->Hp->Prop} (k:ta σ H (aY1 R)):bBu ta σ H R:=k
theorem aEd {R:It->Hp->Prop} (h1:-(2 ^ 62)<=j) (h2:j < 2 ^ 62) (k:R (Itr 0 j.toNat) H):aY2 R [.int j] H:=⟨j,rfl,h1,h2,k⟩
theorem aMu {R:It->Hp->Prop} (h1:-(2 ^ 62)<=i) (h2:i < 2 ^ 62) (h3:-(2 ^ 62)<=j) (h4:j < 2 ^ 62) (k:R (Itr i (j - i).toNat) H):aY1 R [.int i,.int j] H:=⟨i,j,rfl,⟨h1,h2,h3,h4⟩,k⟩
theorem aGi {lo:Int} {n:Nat} {g:TG} {tb:TS} (Pv:Nat->St->Hp->Prop) (h0:Pv 0 σ H)
  (hs:∀ i σ H,i < n->Pv i σ H->g (.int (lo+i)) σ H fun σ2 H2=>tb ⟨Pv (i+1),D.rt,D.nx,Pv (i+1)⟩ σ2 H2) (hd:∀ σ H,Pv n σ H->D.nx σ H):aXj g tb D σ (Itr lo n) H:=aR4 Pv h0 hs hd
noncomputable def bBh (K:PySem.W.Frag) (R:It->Hp->Prop):VK:=fun x H1=>∃ a,x=.ref a/\(∃ xs,SqL K H1 a xs)/\R (Itl K a) H1
theorem aV9 {tl:TE} {R:It->Hp->Prop} (k:tl σ H (bBh K R)):bBw K tl σ H R:=k
theorem aCa {a:Addr} {xs:List V} {R:It->Hp->Prop} (h:SqL K H a xs) (k:R (Itl K a) H):bBh K R (.ref a) H:=⟨a,rfl,⟨xs,h⟩,k⟩
theorem aUz {a:Addr} {xs:List V} {g:TG} {tb:TS} (Pv:Nat->St->Hp->Prop) (h0:Pv 0 σ H) (hl:∀ i σ H,i<=xs.length->Pv i σ H->SqL K H a xs)
  (hs:∀ i x σ H,xs[i]?=some x->Pv i σ H->g x σ H fun σ2 H2=>tb ⟨Pv (i+1),D.rt,D.nx,Pv (i+1)⟩ σ2 H2) (hd:∀ σ H,Pv xs.length σ H->D.nx σ H):aXj g tb D σ (Itl K a) H:=aUc Pv h0 hl hs hd
end
end L2
namespace L2
open PySem
noncomputable def sg (t b:Int):Int:=if b < 0 then 0 - (Int.gcd t b:Int) else (Int.gcd t b:Int)
noncomputable def aGk (t b:Int):Int:=t.fdiv (sg t b)
noncomputable def aF8 (t b:Int):Int:=b.fdiv (sg t b)
theorem aNf {t b:Int} (h:b≠0):0 < Int.gcd t b:=Nat.pos_of_ne_zero fun e=>h (Int.gcd_eq_zero_iff.mp e).2
theorem aQl {t b:Int} (h:b≠0):sg t b≠0:=by
 have:=aNf (t:=t) h
 unfold sg
 split <;> omega
theorem aS9 (t b:Int):sg t b ∣ t:=by
 unfold sg
 split
 ·exact (Int.zero_sub _ ▸ Int.neg_dvd.mpr (Int.gcd_dvd_left ..))
 ·exact Int.gcd_dvd_left ..
theorem aS8 (t b:Int):sg t b ∣ b:=by
 unfold sg
 split
 ·exact (Int.zero_sub _ ▸ Int.neg_dvd.mpr (Int.gcd_dvd_right ..))
 ·exact Int.gcd_dvd_right ..
theorem aSa {a g:Int} (hg:g≠0) (h:g ∣ a):a.fdiv g * g=a:=by
 obtain ⟨c,rfl⟩:=h
 rw [Int.mul_fdiv_cancel_left _ hg,Int.mul_comm]
theorem aKe {t b:Int} (h:b≠0):aGk t b * sg t b=t:=aSa (aQl h) (aS9 t b)
theorem aG6 {t b:Int} (h:b≠0):aF8 t b * sg t b=b:=aSa (aQl h) (aS8 t b)
theorem aLb (t b:Int):(sg t b).natAbs=Int.gcd t b:=by
 unfold sg
 split <;> omega
theorem aOm {t b:Int} (h:b≠0):0 < aF8 t b:=by
 have e:=aG6 (t:=t) h
 have hp:=aNf (t:=t) h
 by_cases hb:b < 0
 ·have hs:sg t b < 0:=by unfold sg; rw [if_pos hb]; omega
  rcases Int.lt_or_le 0 (aF8 t b) with q | q
  ·exact q
  ·have:0<=aF8 t b * sg t b:=Int.mul_nonneg_of_nonpos_of_nonpos q (Int.le_of_lt hs)
   omega
 ·have hs:0 < sg t b:=by unfold sg; rw [if_neg hb]; omega
  rcases Int.lt_or_le 0 (aF8 t b) with q | q
  ·exact q
  ·have:aF8 t b * sg t b<=0:=Int.mul_nonpos_of_nonpos_of_nonneg q (Int.le_of_lt hs)
   omega
theorem aRm {t b:Int} (h:b≠0):Int.gcd (aGk t b) (aF8 t b)=1:=by
 have e1:=aKe (t:=t) h
 have e2:=aG6 (t:=t) h
 have hp:=aNf (t:=t) h
 have e:Int.gcd (aGk t b * sg t b) (aF8 t b * sg t b)=Int.gcd (aGk t b) (aF8 t b) * (sg t b).natAbs:=Int.gcd_mul_right ..
 rw [e1,e2,aLb] at e
 have:1 * Int.gcd t b=Int.gcd (aGk t b) (aF8 t b) * Int.gcd t b:=by omega
 exact (Nat.eq_of_mul_eq_mul_right hp this).symm
theorem aRl {t b:Int} (h:b≠0):t * aF8 t b=b * aGk t b:=by
 have e1:=aKe (t:=t) h
 have e2:=aG6 (t:=t) h
 calc t * aF8 t b=(aGk t b * sg t b) * aF8 t b:=by rw [e1]
  _=(aF8 t b * sg t b) * aGk t b:=by rw [Int.mul_assoc,Int.mul_comm (sg t b),← Int.mul_assoc,Int.mul_comm (aGk t b),Int.mul_assoc,Int.mul_comm (aGk t b),← Int.mul_assoc]
  _=b * aGk t b:=by rw [e2]
theorem aD6 {a g c:Int} (hg:g≠0) (e:a * g=c):a.natAbs<=c.natAbs:=by
 rw [← e,Int.natAbs_mul]
 exact Nat.le_mul_of_pos_right _ (by omega)
theorem aXa {t b:Int} (h:b≠0):(aGk t b).natAbs<=t.natAbs:=aD6 (aQl h) (aKe h)
theorem aXb {t b:Int} (h:b≠0):(aF8 t b).natAbs<=b.natAbs:=aD6 (aQl h) (aG6 h)
theorem aUa {one other:Int} (h:0 < other):Int.gcd other (one % other)=Int.gcd one other:=by
 have e:one % other=one - (one / other) * other:=by rw [Int.emod_def,Int.mul_comm]
 rw [e,Int.gcd_comm other,Int.gcd_sub_mul_right_left]
theorem aR2 {one other:Int} (h:other≠0):Int.gcd other (one.fmod other)=Int.gcd one other:=by
 have e:one.fmod other=one - (one.fdiv other) * other:=by rw [Int.fmod_def,Int.mul_comm]
 rw [e,Int.gcd_comm other,Int.gcd_sub_mul_right_left]
theorem aT2 {a b:Int} (hb:0 < b) (h:Int.gcd a b=1):aGk a b=a/\aF8 a b=b:=by
 have e:sg a b=1:=by unfold sg; rw [if_neg (by omega),h]; rfl
 unfold aGk aF8
 rw [e]
 exact ⟨Int.fdiv_one _,Int.fdiv_one _⟩
theorem pick {ns:List Int} {i:Int} (h0:0<=i) (h1:i < ns.length):∃ z,z∈ns/\atI (ns.map V.int) i=some (.int z):=by
 have hk:i.toNat < ns.length:=by omega
 have ek:i=((i.toNat:Nat):Int):=by omega
 have q:atI (ns.map V.int) ((i.toNat:Nat):Int)=some (.int ns[i.toNat]):=aA7 (by rw [List.getElem?_map,List.getElem?_eq_getElem hk] <;> rfl)
 rw [← ek] at q
 exact ⟨ns[i.toNat],List.getElem_mem hk,q⟩
theorem aBw {a b:Int} (ha:0<=a) (hb:0 < b):0<=a.fdiv b:=by
 rw [Int.fdiv_eq_ediv_of_nonneg _ (Int.le_of_lt hb)]
 exact Int.ediv_nonneg ha (Int.le_of_lt hb)
theorem aZi {i j:Int} {H:Hp} {Q:VK} (h:j≠0) (k:Q (.int (i.fmod j)) H):rI (fun _ j=>j≠0) (fun i j=>.int (i.fmod j)) (.int i) (.int j) H Q:=r_I h k
theorem aXl {a b:Int} (h:b≠0):(a.fmod b).natAbs < b.natAbs:=by
 have e:=Int.fmod_eq_emod (a:=a) (b:=b)
 have h1:=Int.emod_nonneg a h
 have h2:=Int.emod_lt a h
 rw [e]
 by_cases hc:0<=b∨b ∣ a
 ·rw [if_pos hc]
  omega
 ·rw [if_neg hc]
  have h3:a % b≠0:=fun z=>hc (.inr (Int.dvd_of_emod_eq_zero z))
  omega
noncomputable def frV:V->V->Bool
 | .int a,.int b=>decide (1<=b)&&decide (Int.gcd a b=1)
 | _,_=>false
theorem aLv {t b:Int} (h:b≠0):aGk t b * b=t * aF8 t b:=by rw [aRl h,Int.mul_comm]
end L2
namespace L2
open PySem PySem.Spec PyProof.Rows
inductive Dt where
 | non | bl (b:Bool) | int (i:Int) | str (x:Str) | tup (xs:List Dt) | lst (xs:List Dt)
mutual
noncomputable def Den (H:Hp):Dt->V->Prop
 | .non,v=>v=.non
 | .bl b,v=>v=.bl b
 | .int i,v=>v=.int i
 | .str x,v=>v=.str x
 | .tup ds,v=>∃ p vs,v=.ref p/\H p=some (.tup vs)/\aMg H ds vs
 | .lst ds,v=>∃ p vs,v=.ref p/\H p=some (.lst vs)/\aMg H ds vs
noncomputable def aMg (H:Hp):List Dt->List V->Prop
 | [],vs=>vs=[]
 | d::ds,vs=>∃ v r,vs=v::r/\Den H d v/\aMg H ds r
end
mutual
noncomputable def deq:Dt->Dt->Bool
 | .non,.non=>true
 | .bl a,.bl b=>a==b
 | .bl a,.int b=>(if a then 1 else 0)==b
 | .int a,.bl b=>a==(if b then 1 else 0)
 | .int a,.int b=>a==b
 | .str a,.str b=>a==b
 | .tup xs,.tup ys=>aMi xs ys
 | .lst xs,.lst ys=>aMi xs ys
 | _,_=>false
noncomputable def aMi:List Dt->List Dt->Bool
 | [],[]=>true
 | x::xs,y::ys=>deq x y&&aMi xs ys
 | _,_=>false
end
mutual
noncomputable def dep:Dt->Nat
 | .tup xs=>aGa xs+1
 | .lst xs=>aGa xs+1
 | _=>0
noncomputable def aGa:List Dt->Nat
 | []=>0
 | x::xs=>max (dep x) (aGa xs)
end
theorem aMg.length {H:Hp}:∀ {ds:List Dt} {vs:List V},aMg H ds vs->ds.length=vs.length
 | [],vs,h=>by rw [show vs=[] from h]; rfl
 | d::ds,vs,h=>by
  obtain ⟨v,r,rfl,_,t⟩:=h
  rw [List.length_cons,List.length_cons,aMg.length t]
mutual
theorem Den.same_eq {H:Hp}:∀ (d e:Dt) {x:V},Den H d x->Den H e x->deq d e=true
 | .tup ds,.tup es,x,h1,h2=>by
  obtain ⟨p,vs,rfl,a,b⟩:=h1
  obtain ⟨q,ws,e1,c,d⟩:=h2
  cases e1
  rw [a] at c
  cases c
  exact aMg.same_eq ds es b d
 | .lst ds,.lst es,x,h1,h2=>by
  obtain ⟨p,vs,rfl,a,b⟩:=h1
  obtain ⟨q,ws,e1,c,d⟩:=h2
  cases e1
  rw [a] at c
  cases c
  exact aMg.same_eq ds es b d
 | .tup ds,.lst es,x,h1,h2=>by
  obtain ⟨p,vs,rfl,a,b⟩:=h1
  obtain ⟨q,ws,e1,c,d⟩:=h2
  cases e1
  rw [a] at c
  cases c
 | .lst ds,.tup es,x,h1,h2=>by
  obtain ⟨p,vs,rfl,a,b⟩:=h1
  obtain ⟨q,ws,e1,c,d⟩:=h2
  cases e1
  rw [a] at c
  cases c
 | .non,e,x,h1,h2=>by
  have h1:x=.non:=h1
  subst h1
  cases e <;> first | rfl | (have h2:V.non=_:=h2; cases h2) | (obtain ⟨_,_,z,_⟩:=h2; cases z)
 | .bl b,e,x,h1,h2=>by
  have h1:x=.bl b:=h1
  subst h1
  cases e <;> first | (have h2:V.bl b=_:=h2; cases h2; exact beq_self_eq_true b) | (have h2:V.bl b=_:=h2; cases h2; done) | (obtain ⟨_,_,z,_⟩:=h2; cases z)
 | .int b,e,x,h1,h2=>by
  have h1:x=.int b:=h1
  subst h1
  cases e <;> first | (have h2:V.int b=_:=h2; cases h2; exact beq_self_eq_true b) | (have h2:V.int b=_:=h2; cases h2; done) | (obtain ⟨_,_,z,_⟩:=h2; cases z)
 | .str b,e,x,h1,h2=>by
  have h1:x=.str b:=h1
  subst h1
  cases e <;> first | (have h2:V.str b=_:=h2; cases h2; exact beq_self_eq_true b) | (have h2:V.str b=_:=h2; cases h2; done) | (obtain ⟨_,_,z,_⟩:=h2; cases z)
 | .tup ds,.non,x,h1,h2=>by obtain ⟨p,vs,rfl,_⟩:=h1; have h2:V.ref p=_:=h2; cases h2
 | .tup ds,.bl _,x,h1,h2=>by obtain ⟨p,vs,rfl,_⟩:=h1; have h2:V.ref p=_:=h2; cases h2
 | .tup ds,.int _,x,h1,h2=>by obtain ⟨p,vs,rfl,_⟩:=h1; have h2:V.ref p=_:=h2; cases h2
 | .tup ds,.str _,x,h1,h2=>by obtain ⟨p,vs,rfl,_⟩:=h1; have h2:V.ref p=_:=h2; cases h2
 | .lst ds,.non,x,h1,h2=>by obtain ⟨p,vs,rfl,_⟩:=h1; have h2:V.ref p=_:=h2; cases h2
 | .lst ds,.bl _,x,h1,h2=>by obtain ⟨p,vs,rfl,_⟩:=h1; have h2:V.ref p=_:=h2; cases h2
 | .lst ds,.int _,x,h1,h2=>by obtain ⟨p,vs,rfl,_⟩:=h1; have h2:V.ref p=_:=h2; cases h2
 | .lst ds,.str _,x,h1,h2=>by obtain ⟨p,vs,rfl,_⟩:=h1; have h2:V.ref p=_:=h2; cases h2
theorem aMg.same_eq {H:Hp}:∀ (ds es:List Dt) {xs:List V},aMg H ds xs->aMg H es xs->aMi ds es=true
 | [],[],xs,_,_=>rfl
 | [],e::es,xs,h1,h2=>by
  have h1:xs=[]:=h1
  subst h1
  obtain ⟨_,_,z,_⟩:=h2
  cases z
 | d::ds,[],xs,h1,h2=>by
  have h2:xs=[]:=h2
  subst h2
  obtain ⟨_,_,z,_⟩:=h1
  cases z
 | d::ds,e::es,xs,h1,h2=>by
  obtain ⟨v,r,rfl,a,b⟩:=h1
  obtain ⟨v',r',z,a',b'⟩:=h2
  cases z
  show (deq d e&&aMi ds es)=true
  rw [Den.same_eq d e a a',aMg.same_eq ds es b b']
  rfl
end
noncomputable def nth (ds es:List Dt) (j:Nat):Bool:=match ds[j]?,es[j]? with
 | some d,some e=>deq d e
 | _,_=>false
theorem aCv:∀ (ds es:List Dt),((List.range (min ds.length es.length)).all (nth ds es)&&ds.length==es.length)=aMi ds es
 | [],[]=>rfl
 | [],e::es=>by show (_&&(0==es.length+1))=false; simp
 | d::ds,[]=>by show (_&&(ds.length+1==0))=false; simp
 | d::ds,e::es=>by
  have ih:=aCv ds es
  show _=(deq d e&&aMi ds es)
  rw [← ih]
  have h1:min (d::ds).length (e::es).length=min ds.length es.length+1:=by simp only [List.length_cons]; omega
  rw [h1,List.range_succ_eq_map,List.all_cons,List.all_map]
  have h2:(nth (d::ds) (e::es)) ∘ Nat.succ=nth ds es:=by funext j; rfl
  rw [h2]
  have h3:nth (d::ds) (e::es) 0=deq d e:=rfl
  rw [h3]
  have h4:((d::ds).length==(e::es).length)=(ds.length==es.length):=by simp
  rw [h4,Bool.and_assoc]
section
variable {X:Cx} {pins:List (Addr×Obj)} {σ:St} {H:Hp} {s:Shared}
theorem aD7 (I:Inv X pins σ H s) {p:Addr} {vs:List V} (h:H p=some (.tup vs)):∃ its:List Value,aB0 vs its/\s.heap.IsTuple p its.toArray:=by
 obtain ⟨_,its,r,q⟩:=(show aCd X.prog X.w H s.heap p (.tup vs) from I.hok p _ h)
 exact ⟨its,r,q⟩
theorem aEh (I:Inv X pins σ H s) {p:Addr} {vs:List V} (h:H p=some (.lst vs)):∃ its:List Value,aB0 vs its/\s.heap.IsList p its.toArray:=by
 obtain ⟨_,its,n,r,q⟩:=(show aCd X.prog X.w H s.heap p (.lst vs) from I.hok p _ h)
 exact ⟨its,r,_,q,rfl,_,rfl⟩
theorem aNd {A:Around} {ds:List Dt} (h:A.units+dep (.tup ds) < cLine):A.in1.units+aGa ds < cLine:=by
 have e:dep (.tup ds)=aGa ds+1:=by simp [dep]
 show A.units+1+aGa ds < cLine
 omega
theorem aNe {A:Around} {ds:List Dt} (h:A.units+dep (.lst ds) < cLine):A.in1.units+aGa ds < cLine:=by
 have e:dep (.lst ds)=aGa ds+1:=by simp [dep]
 show A.units+1+aGa ds < cLine
 omega
mutual
theorem bB4 (I:Inv X pins σ H s):∀ (d e:Dt) {x y:V} {u v:Value} {A:Around},Den H d x->Den H e y->aB6 x u->aB6 y v->A.units+dep d < cLine->SeqAt.EqAt A s u v (deq d e)
 | .tup ds,e,x,y,u,v,A,h1,h2,rx,ry,hu=>by
  obtain ⟨p,vs,rfl,a,b⟩:=h1
  cases rx
  obtain ⟨its,r,t⟩:=aD7 I a
  have hu':A.units < cLine:=by omega
  cases e with
  | tup es =>
   obtain ⟨q,ws,rfl,a',b'⟩:=id h2
   cases ry
   by_cases hne:p=q
   ·subst hne
    have:=Den.same_eq (.tup ds) (.tup es) (x:=.ref p) ⟨p,vs,rfl,a,b⟩ h2
    rw [this]
    exact SeqAt.EqAt.same _
   ·obtain ⟨its',r',t'⟩:=aD7 I a'
    have z:=SeqAt.RcAt.tuples (e:=nth ds es) t t' hu' (fun j g1 g2=>aIb I ds es b b' r r' (aNd hu) j (by simpa using g1) (by simpa using g2))
    have l1:its.length=ds.length:=by rw [b.length,r.length]
    have l2:its'.length=es.length:=by rw [b'.length,r'.length]
    rw [List.size_toArray,List.size_toArray,l1,l2,aCv] at z
    exact SeqAt.EqAt.of_refs hne z
  | lst es =>
   obtain ⟨q,ws,rfl,a',b'⟩:=id h2
   cases ry
   obtain ⟨its',r',t'⟩:=aEh I a'
   exact SeqAt.EqAt.tuple_list t t' hu'
  | non=>cases (show y=.non from h2); cases ry; exact SeqAt.EqAt.tuple_none t hu'
  | bl b=>cases (show y=.bl b from h2); cases ry; exact SeqAt.EqAt.tuple_bool b t hu'
  | int b=>cases (show y=.int b from h2); obtain ⟨tk,rfl⟩:=ry; exact SeqAt.EqAt.tuple_int b tk t hu'
  | str b=>cases (show y=.str b from h2); obtain ⟨tk,rfl⟩:=ry; exact SeqAt.EqAt.tuple_str b tk t hu'
 | .lst ds,e,x,y,u,v,A,h1,h2,rx,ry,hu=>by
  obtain ⟨p,vs,rfl,a,b⟩:=h1
  cases rx
  obtain ⟨its,r,t⟩:=aEh I a
  have hu':A.units < cLine:=by omega
  cases e with
  | lst es =>
   obtain ⟨q,ws,rfl,a',b'⟩:=id h2
   cases ry
   by_cases hne:p=q
   ·subst hne
    have:=Den.same_eq (.lst ds) (.lst es) (x:=.ref p) ⟨p,vs,rfl,a,b⟩ h2
    rw [this]
    exact SeqAt.EqAt.same _
   ·obtain ⟨its',r',t'⟩:=aEh I a'
    have l1:its.length=ds.length:=by rw [b.length,r.length]
    have l2:its'.length=es.length:=by rw [b'.length,r'.length]
    by_cases hl:ds.length=es.length
    ·have z:=SeqAt.RcAt.lists (e:=nth ds es) t t' (by rw [List.size_toArray,List.size_toArray,l1,l2,hl]) hu' (fun j g1 g2=>aIb I ds es b b' r r' (aNe hu) j (by simpa using g1) (by simpa using g2))
     have e1:=aCv ds es
     rw [hl,Nat.min_self,beq_self_eq_true,Bool.and_true] at e1
     rw [List.size_toArray,l1,hl,e1] at z
     exact SeqAt.EqAt.of_refs hne z
    ·have z:=SeqAt.RcAt.lists_lengths t t' (by rw [List.size_toArray,List.size_toArray,l1,l2]; simpa using hl) hu'
     have e1:=aCv ds es
     rw [show (ds.length==es.length)=false from by simpa using hl,Bool.and_false] at e1
     have e2:deq (.lst ds) (.lst es)=false:=by show aMi ds es=false; exact e1.symm
     rw [e2]
     exact SeqAt.EqAt.of_refs hne z
  | tup es =>
   obtain ⟨q,ws,rfl,a',b'⟩:=id h2
   cases ry
   obtain ⟨its',r',t'⟩:=aD7 I a'
   exact SeqAt.EqAt.list_tuple t t' hu'
  | non=>cases (show y=.non from h2); cases ry; exact SeqAt.EqAt.list_none t hu'
  | bl b=>cases (show y=.bl b from h2); cases ry; exact SeqAt.EqAt.list_bool b t hu'
  | int b=>cases (show y=.int b from h2); obtain ⟨tk,rfl⟩:=ry; exact SeqAt.EqAt.list_int b tk t hu'
  | str b=>cases (show y=.str b from h2); obtain ⟨tk,rfl⟩:=ry; exact SeqAt.EqAt.list_str b tk t hu'
 | .non,e,x,y,u,v,A,h1,h2,rx,ry,hu=>by
  cases (show x=.non from h1); cases rx
  have hu':A.units < cLine:=by omega
  cases e with
  | tup es=>obtain ⟨q,ws,rfl,a',b'⟩:=id h2; cases ry; obtain ⟨its',r',t'⟩:=aD7 I a'; exact SeqAt.EqAt.none_tuple t' hu'
  | lst es=>obtain ⟨q,ws,rfl,a',b'⟩:=id h2; cases ry; obtain ⟨its',r',t'⟩:=aEh I a'; exact SeqAt.EqAt.none_list t' hu'
  | non=>cases (show y=.non from h2); cases ry; exact SeqAt.EqAt.same _
  | bl b=>cases (show y=.bl b from h2); cases ry; exact SeqAt.EqAt.none_bool b
  | int b=>cases (show y=.int b from h2); obtain ⟨tk,rfl⟩:=ry; exact SeqAt.EqAt.none_int b tk
  | str b=>cases (show y=.str b from h2); obtain ⟨tk,rfl⟩:=ry; exact SeqAt.EqAt.none_str b tk
 | .bl c,e,x,y,u,v,A,h1,h2,rx,ry,hu=>by
  cases (show x=.bl c from h1); cases rx
  have hu':A.units < cLine:=by omega
  cases e with
  | tup es=>obtain ⟨q,ws,rfl,a',b'⟩:=id h2; cases ry; obtain ⟨its',r',t'⟩:=aD7 I a'; exact SeqAt.EqAt.bool_tuple c t' hu'
  | lst es=>obtain ⟨q,ws,rfl,a',b'⟩:=id h2; cases ry; obtain ⟨its',r',t'⟩:=aEh I a'; exact SeqAt.EqAt.bool_list c t' hu'
  | non=>cases (show y=.non from h2); cases ry; exact SeqAt.EqAt.bool_none c
  | bl b=>cases (show y=.bl b from h2); cases ry; exact SeqAt.EqAt.bool_bool c b
  | int b=>cases (show y=.int b from h2); obtain ⟨tk,rfl⟩:=ry; exact SeqAt.EqAt.bool_int c b tk
  | str b=>cases (show y=.str b from h2); obtain ⟨tk,rfl⟩:=ry; exact SeqAt.EqAt.bool_str c b tk
 | .int c,e,x,y,u,v,A,h1,h2,rx,ry,hu=>by
  cases (show x=.int c from h1); obtain ⟨tc,rfl⟩:=rx
  have hu':A.units < cLine:=by omega
  cases e with
  | tup es=>obtain ⟨q,ws,rfl,a',b'⟩:=id h2; cases ry; obtain ⟨its',r',t'⟩:=aD7 I a'; exact SeqAt.EqAt.int_tuple c tc t' hu'
  | lst es=>obtain ⟨q,ws,rfl,a',b'⟩:=id h2; cases ry; obtain ⟨its',r',t'⟩:=aEh I a'; exact SeqAt.EqAt.int_list c tc t' hu'
  | non=>cases (show y=.non from h2); cases ry; exact SeqAt.EqAt.int_none c tc
  | bl b=>cases (show y=.bl b from h2); cases ry; exact SeqAt.EqAt.int_bool c tc b
  | int b=>cases (show y=.int b from h2); obtain ⟨tk,rfl⟩:=ry; exact SeqAt.EqAt.int_int c tc b tk
  | str b=>cases (show y=.str b from h2); obtain ⟨tk,rfl⟩:=ry; exact SeqAt.EqAt.int_str c tc b tk
 | .str c,e,x,y,u,v,A,h1,h2,rx,ry,hu=>by
  cases (show x=.str c from h1); obtain ⟨tc,rfl⟩:=rx
  have hu':A.units < cLine:=by omega
  cases e with
  | tup es=>obtain ⟨q,ws,rfl,a',b'⟩:=id h2; cases ry; obtain ⟨its',r',t'⟩:=aD7 I a'; exact SeqAt.EqAt.str_tuple c tc t' hu'
  | lst es=>obtain ⟨q,ws,rfl,a',b'⟩:=id h2; cases ry; obtain ⟨its',r',t'⟩:=aEh I a'; exact SeqAt.EqAt.str_list c tc t' hu'
  | non=>cases (show y=.non from h2); cases ry; exact SeqAt.EqAt.str_none c tc
  | bl b=>cases (show y=.bl b from h2); cases ry; exact SeqAt.EqAt.str_bool c tc b
  | int b=>cases (show y=.int b from h2); obtain ⟨tk,rfl⟩:=ry; exact SeqAt.EqAt.str_int c tc b tk
  | str b=>cases (show y=.str b from h2); obtain ⟨tk,rfl⟩:=ry; exact SeqAt.EqAt.str_str c tc b tk
theorem aIb (I:Inv X pins σ H s):∀ (ds es:List Dt) {xs ys:List V} {us vs:List Value} {A:Around},aMg H ds xs->aMg H es ys->aB0 xs us->aB0 ys vs->A.units+aGa ds < cLine ->
  ∀ (j:Nat) (g1:j < us.length) (g2:j < vs.length),SeqAt.EqAt A s us[j] vs[j] (nth ds es j)
 | [],es,xs,ys,us,vs,A,h1,h2,r1,r2,hu=>fun j g1 g2=>by
  have h1:xs=[]:=h1
  subst h1
  cases r1
  exact absurd g1 (Nat.not_lt_zero _)
 | d::ds,[],xs,ys,us,vs,A,h1,h2,r1,r2,hu=>fun j g1 g2=>by
  have h2:ys=[]:=h2
  subst h2
  cases r2
  exact absurd g2 (Nat.not_lt_zero _)
 | d::ds,e::es,xs,ys,us,vs,A,h1,h2,r1,r2,hu=>fun j g1 g2=>by
  obtain ⟨x,xr,rfl,a,b⟩:=h1
  obtain ⟨y,yr,rfl,a',b'⟩:=h2
  cases r1 with
  | cons rx r1 =>
   cases r2 with
   | cons ry r2 =>
    have hd:aGa (d::ds)=max (dep d) (aGa ds):=by simp [aGa]
    cases j with
    | zero=>exact bB4 I d e a a' rx ry (by omega)
    | succ j=>exact aIb I ds es b b' r1 r2 (by omega) j (by simpa using g1) (by simpa using g2)
end
noncomputable def rEqD:R2:=fun x y H Q=>∃ d e,Den H d x/\Den H e y/\dep d<=60/\((∃ ds es,d=.tup ds/\e=.tup es)∨∃ ds es,d=.lst ds/\e=.lst es)/\Q (.bl (deq d e)) H
noncomputable def rNeD:R2:=fun x y H Q=>∃ d e,Den H d x/\Den H e y/\dep d<=60/\((∃ ds es,d=.tup ds/\e=.tup es)∨∃ ds es,d=.lst ds/\e=.lst es)/\Q (.bl (!deq d e)) H
theorem bA9 (hu:X.A.units+64 < cLine):OpR X (compareOp .Eq) rEqD:=by
 intro pins s σ H x y v u Q I rx ry h
 obtain ⟨d,e,h1,h2,hd,k,q⟩:=h
 rcases k with ⟨ds,es,rfl,rfl⟩ | ⟨ds,es,rfl,rfl⟩
 ·obtain ⟨p,vs,rfl,a,b⟩:=h1
  obtain ⟨p',ws,rfl,a',b'⟩:=h2
  cases rx
  cases ry
  obtain ⟨its,r,t⟩:=aD7 I a
  obtain ⟨its',r',t'⟩:=aD7 I a'
  have z:=SeqAt.RcAt.tuples (A:=X.A) (e:=nth ds es) t t' (by omega) (fun j g1 g2=>aIb I ds es b b' r r' (aNd (by omega)) j (by simpa using g1) (by simpa using g2))
  have l1:its.length=ds.length:=by rw [b.length,r.length]
  have l2:its'.length=es.length:=by rw [b'.length,r'.length]
  rw [List.size_toArray,List.size_toArray,l1,l2,aCv] at z
  exact z _ _ _ _ ⟨.bl _,H,I,rfl,q⟩
 ·obtain ⟨p,vs,rfl,a,b⟩:=h1
  obtain ⟨p',ws,rfl,a',b'⟩:=h2
  cases rx
  cases ry
  obtain ⟨its,r,t⟩:=aEh I a
  obtain ⟨its',r',t'⟩:=aEh I a'
  have l1:its.length=ds.length:=by rw [b.length,r.length]
  have l2:its'.length=es.length:=by rw [b'.length,r'.length]
  by_cases hl:ds.length=es.length
  ·have z:=SeqAt.RcAt.lists (A:=X.A) (e:=nth ds es) t t' (by rw [List.size_toArray,List.size_toArray,l1,l2,hl]) (by omega) (fun j g1 g2=>aIb I ds es b b' r r' (aNe (by omega)) j (by simpa using g1) (by simpa using g2))
   have e1:=aCv ds es
   rw [hl,Nat.min_self,beq_self_eq_true,Bool.and_true] at e1
   rw [List.size_toArray,l1,hl,e1] at z
   exact z _ _ _ _ ⟨.bl _,H,I,rfl,q⟩
  ·have z:=SeqAt.RcAt.lists_lengths (A:=X.A) t t' (by rw [List.size_toArray,List.size_toArray,l1,l2]; simpa using hl) (by omega)
   have e1:=aCv ds es
   rw [show (ds.length==es.length)=false from by simpa using hl,Bool.and_false] at e1
   have e2:deq (.lst ds) (.lst es)=false:=by show aMi ds es=false; exact e1.symm
   rw [e2] at q
   exact z _ _ _ _ ⟨.bl _,H,I,rfl,q⟩
theorem bA7 (hu:X.A.units+64 < cLine):OpR X (compareOp .NotEq) rNeD:=by
 intro pins s σ H x y v u Q I rx ry h
 obtain ⟨d,e,h1,h2,hd,k,q⟩:=h
 rcases k with ⟨ds,es,rfl,rfl⟩ | ⟨ds,es,rfl,rfl⟩
 ·obtain ⟨p,vs,rfl,a,b⟩:=h1
  obtain ⟨p',ws,rfl,a',b'⟩:=h2
  cases rx
  cases ry
  obtain ⟨its,r,t⟩:=aD7 I a
  obtain ⟨its',r',t'⟩:=aD7 I a'
  have z:=SeqAt.RcNeAt.tuples (A:=X.A) (e:=nth ds es) t t' (by omega) (fun j g1 g2=>aIb I ds es b b' r r' (aNd (by omega)) j (by simpa using g1) (by simpa using g2))
  have l1:its.length=ds.length:=by rw [b.length,r.length]
  have l2:its'.length=es.length:=by rw [b'.length,r'.length]
  rw [List.size_toArray,List.size_toArray,l1,l2,aCv] at z
  exact z _ _ _ _ ⟨.bl _,H,I,rfl,q⟩
 ·obtain ⟨p,vs,rfl,a,b⟩:=h1
  obtain ⟨p',ws,rfl,a',b'⟩:=h2
  cases rx
  cases ry
  obtain ⟨its,r,t⟩:=aEh I a
  obtain ⟨its',r',t'⟩:=aEh I a'
  have l1:its.length=ds.length:=by rw [b.length,r.length]
  have l2:its'.length=es.length:=by rw [b'.length,r'.length]
  by_cases hl:ds.length=es.length
  ·have z:=SeqAt.RcNeAt.lists (A:=X.A) (e:=nth ds es) t t' (by rw [List.size_toArray,List.size_toArray,l1,l2,hl]) (by omega) (fun j g1 g2=>aIb I ds es b b' r r' (aNe (by omega)) j (by simpa using g1) (by simpa using g2))
   have e1:=aCv ds es
   rw [hl,Nat.min_self,beq_self_eq_true,Bool.and_true] at e1
   rw [List.size_toArray,l1,hl,e1] at z
   exact z _ _ _ _ ⟨.bl _,H,I,rfl,q⟩
  ·have z:=SeqAt.RcNeAt.lists_lengths (A:=X.A) t t' (by rw [List.size_toArray,List.size_toArray,l1,l2]; simpa using hl) (by omega)
   have e1:=aCv ds es
   rw [show (ds.length==es.length)=false from by simpa using hl,Bool.and_false] at e1
   have e2:deq (.lst ds) (.lst es)=false:=by show aMi ds es=false; exact e1.symm
   rw [e2] at q
   exact z _ _ _ _ ⟨.bl _,H,I,rfl,q⟩
noncomputable def aTi:R2:=fun x y H Q=>rEq x y H Q∨rEqD x y H Q
noncomputable def aWj:R2:=fun x y H Q=>rNe x y H Q∨rNeD x y H Q
theorem aA0 (hu:X.A.units+64 < cLine):OpR X (compareOp .Eq) aTi:=op_eq.or (bA9 hu)
theorem aD5 (hu:X.A.units+64 < cLine):OpR X (compareOp .NotEq) aWj:=op_ne.or (bA7 hu)
end
section
variable {H:Hp} {Q:VK} {i j:Int} {b c:Bool} {x y:Str} {u v:V}
theorem e_int (k:Q (.bl (decide (i=j))) H):aTi (.int i) (.int j) H Q:=.inl (r_eqI k)
theorem n_int (k:Q (.bl (!decide (i=j))) H):aWj (.int i) (.int j) H Q:=.inl (r_neI k)
theorem e_str (k:Q (.bl (x==y)) H):aTi (.str x) (.str y) H Q:=.inl ⟨rfl,by rw [aKn]; exact k⟩
theorem n_str (k:Q (.bl (!(x==y))) H):aWj (.str x) (.str y) H Q:=.inl ⟨rfl,by rw [aKn]; exact k⟩
theorem n_tup {ds es:List Dt} (h1:Den H (.tup ds) u) (h2:Den H (.tup es) v) (hd:aGa ds<=50) (k:Q (.bl (!aMi ds es)) H):aWj u v H Q :=
 .inr ⟨_,_,h1,h2,by simp [dep]; omega,.inl ⟨_,_,rfl,rfl⟩,k⟩
theorem aUf {ds es:List Dt} (h1:Den H (.lst ds) u) (h2:Den H (.lst es) v) (hd:aGa ds<=50) (k:Q (.bl (aMi ds es)) H):aTi u v H Q :=
 .inr ⟨_,_,h1,h2,by simp [dep]; omega,.inr ⟨_,_,rfl,rfl⟩,k⟩
theorem n_lst {ds es:List Dt} (h1:Den H (.lst ds) u) (h2:Den H (.lst es) v) (hd:aGa ds<=50) (k:Q (.bl (!aMi ds es)) H):aWj u v H Q :=
 .inr ⟨_,_,h1,h2,by simp [dep]; omega,.inr ⟨_,_,rfl,rfl⟩,k⟩
theorem den2 {p:Addr} {a b:Int} (h:H p=some (.tup [.int a,.int b])):Den H (.tup [.int a,.int b]) (.ref p):=⟨p,_,rfl,h,_,_,rfl,rfl,_,_,rfl,rfl,rfl⟩
theorem deq2 (a b c d:Int):aMi [.int a,.int b] [.int c,.int d]=decide (a=c/\b=d):=by
 show ((a==c)&&((b==d)&&true))=_
 rw [Bool.and_true,Bool.decide_and,Bool.beq_eq_decide_eq,Bool.beq_eq_decide_eq]
theorem n_2 {p q:Addr} {a b c d:Int} (h1:H p=some (.tup [.int a,.int b])) (h2:H q=some (.tup [.int c,.int d])) (k:Q (.bl (!decide (a=c/\b=d))) H):aWj (.ref p) (.ref q) H Q :=
 n_tup (den2 h1) (den2 h2) (by simp [aGa,dep]) (by rw [deq2]; exact k)
end
end L2
namespace L2
open PySem PySem.Spec PyProof.Rows
section
variable {X:Cx} {K:PySem.W.Frag} {H H':Hp} {Q:VK} {i j:Int} {σ:St}
noncomputable def bAr:R2:=fun x y H Q=>∃ i j,x=.str i/\y=.str j/\i.length+j.length<=sizeLine/\Q (.str (i++j)) H
theorem aWx:OpR X (binaryOp .Add) bAr:=aPe
noncomputable def aIp (K:PySem.W.Frag):R2:=fun x y H Q=>rI0 (fun i j=>.int (i+j)) x y H Q∨rCat x y H Q∨bAp K x y H Q∨bAr x y H Q
theorem aAs:OpR X (binaryOp .Add) (aIp X.K):=bBb.or (bBa.or (aWw.or aWx))
theorem a_int (k:Q (.int (i+j)) H):aIp K (.int i) (.int j) H Q:=.inl (r_I0 k)
theorem aUj {p q:Addr} {xs ys:List V} (h1:H p=some (.lst xs)) (h2:H q=some (.lst ys)) (hl:xs.length+ys.length<=1000) (k:∀ l,H l=none->Q (.ref l) (upd H l (.lst (xs++ys)))):aIp K (.ref p) (.ref q) H Q :=
 .inr (.inl ⟨p,q,xs,ys,rfl,rfl,h1,h2,aH2 hl,k⟩)
theorem aSu {p q:Addr} {xs ys:List V} (h1:H p=some (.tup xs)) (h2:H q=some (.tup ys)) (hl:xs.length+ys.length<=1000) (hx:xs≠[]) (hy:ys≠[]) (k:∀ l,H l=none->Q (.ref l) (upd H l (.tup (xs++ys)))):aIp K (.ref p) (.ref q) H Q :=
 .inr (.inr (.inl ⟨p,q,xs,ys,rfl,rfl,SqT.of h1,SqT.of h2,hx,aH2 hl,fun e=>absurd e hy,fun _=>k⟩))
theorem a_str {x y:Str} (hl:x.length+y.length<=1000) (k:Q (.str (x++y)) H):aIp K (.str x) (.str y) H Q:=.inr (.inr (.inr ⟨x,y,rfl,rfl,aH2 hl,k⟩))
noncomputable def aX6 (K:PySem.W.Frag):V->Option Int->Option Int->Hp->VK->Prop:=fun x lo hi H Q=>rSlL K x lo hi H Q∨rSlT K x lo hi H Q
theorem aBv:SlR X (aX6 X.K):=aVx.or aYu
noncomputable def bA5 (R:Option Int->Hp->Prop):VK:=fun x H1=>∃ i,x=.int i/\R (some i) H1
theorem aZa {t:TE} {R:Option Int->Hp->Prop} (k:t σ H (bA5 R)):aYh t σ H R:=k
theorem aV7 {R:Option Int->Hp->Prop} (k:R (some i) H):bA5 R (.int i) H:=⟨i,rfl,k⟩
theorem aTf {R:Option Int->Hp->Prop} (k:R none H):aQb σ H R:=k
theorem r_sl {r:V->Option Int->Option Int->Hp->VK->Prop} {te:TE} {tl th:TO} (k:te σ H fun x H1=>tl σ H1 fun l H2=>th σ H2 fun u H3=>r x l u H3 Q):tSl r te tl th σ H Q:=k
theorem aEb {p:Addr} {xs:List V} {lo hi:Option Int} (h:H p=some (.lst xs)) (k:∀ l,H l=none->Q (.ref l) (upd H l (.lst (aDs xs lo hi)))):aX6 K (.ref p) lo hi H Q:=.inl ⟨p,xs,rfl,SqL.of h,k⟩
theorem aYw {p:Addr} {xs:List V} {lo hi:Option Int} (h:H p=some (.tup xs)) (hn:¬ (HT.sIx xs.length 0 lo=0/\HT.sIx xs.length xs.length hi=xs.length)) (k:∀ l,H l=none->Q (.ref l) (upd H l (.tup (aDs xs lo hi)))):aX6 K (.ref p) lo hi H Q :=
 .inr ⟨p,xs,rfl,SqT.of h,hn,k⟩
theorem aMk {H:Hp} {q b:Addr} {o u:HO} (hq:H q=none) (h:H b=some u):upd H q o b=some u:=by rw [aBg (aAg h hq)]; exact h
theorem bAv {xs:List V} {i:Int} (h0:0<=i) (h1:i < xs.length):∃ z,z∈xs/\atI xs i=some z:=by
 have hk:i.toNat < xs.length:=by omega
 have ek:i=((i.toNat:Nat):Int):=by omega
 have q:atI xs ((i.toNat:Nat):Int)=some xs[i.toNat]:=aA7 (List.getElem?_eq_getElem hk)
 rw [← ek] at q
 exact ⟨xs[i.toNat],List.getElem_mem hk,q⟩
noncomputable def isI:V->Bool
 | .int _=>true
 | _=>false
theorem aR8 {v:V} (h:aGs v=true):∃ t b c,aIm K H v t/\PySem.W.kitOne K t (.type "int")=some b/\PySem.W.kitOne K t (.type "bool")=some c/\(b&&!c)=isI v:=by
 cases v with
 | non=>exact ⟨_,_,_,.non,aGq,aF9,rfl⟩
 | bl b=>exact ⟨_,_,_,.bl b,aL2,aKh,rfl⟩
 | int b=>exact ⟨_,_,_,.int b,aNb,aL0,rfl⟩
 | str b=>exact ⟨_,_,_,.str b,aM9,aLy,rfl⟩
 | _=>exact absurd (show false=true from h) Bool.false_ne_true
noncomputable def NT (K:PySem.W.Frag) (H:Hp) (x:V):Prop:=∃ t,aIm K H x t/\PySem.W.kitOne K t (.type "tuple")=some false
noncomputable def Frq (K:PySem.W.Frag) (H:Hp) (x:V) (r:Bool):Prop :=
 (NT K H x/\r=false)∨(∃ p xs,x=.ref p/\H p=some (.tup xs)/\xs.length≠2/\r=false) ∨
  ∃ p v w,x=.ref p/\H p=some (.tup [v,w])/\aGs v=true/\aGs w=true/\(∀ a b,v=.int a->w=.int b->Sm 8000 a/\Sm 8000 b)/\r=frV v w
end
end L2
namespace L2
open PySem PySem.Spec PyProof.Rows
noncomputable def aA1 (X:Cx) (scope:Scope) (cl:List (Str×Addr)) (N:List Str) (C:Addr) (s0:Shared) (H0:Hp) (ex:List Addr):Cx :=
 { X with N:=N,s₀:=s0,H₀:=H0,env:=compEnvC scope cl C X.env,outer:=X.stack,stack:=X.stack,ex:=ex,fn:=fun _=>false,pn:=[],xe:=fun _ _=>False }
noncomputable def aBc (env:Env) (names:List Str):List (Str×Addr):=names.filterMap fun n=>(env.cells.lookup n).map fun c=>(n,c)
theorem aDt {env:Env}:∀ {names:List Str} {x:Str} {c:Addr},(aBc env names).lookup x=some c->env.cells.lookup x=some c
 | [],x,c,h=>by simp [aBc] at h
 | n::r,x,c,h=>by
  unfold aBc at h
  rw [List.filterMap_cons] at h
  cases e:env.cells.lookup n with
  | none =>
   rw [e] at h
   exact aDt (names:=r) h
  | some d =>
   rw [e] at h
   have h':List.lookup x ((n,d)::aBc env r)=some c:=h
   rw [List.lookup_cons] at h'
   by_cases hx:x=n
   ·subst hx
    rw [beq_self_eq_true] at h'
    cases h'
    exact e
   ·rw [beq_eq_false_iff_ne.mpr hx] at h'
    exact aDt (names:=r) h'
theorem aGc {env:Env}:∀ {names:List Str} {x:Str} {c:Addr},x∈names->env.cells.lookup x=some c->(aBc env names).lookup x=some c
 | [],x,c,h,_=>by cases h
 | n::r,x,c,h,e=>by
  unfold aBc
  rw [List.filterMap_cons]
  by_cases hx:x=n
  ·subst hx
   rw [e]
   show List.lookup x ((x,c)::_)=some c
   rw [List.lookup_cons,beq_self_eq_true]
  ·have hr:x∈r:=(List.mem_cons.mp h).resolve_left hx
   have ih:=aGc (env:=env) hr e
   cases e2:env.cells.lookup n with
   | none=>exact ih
   | some d =>
    show List.lookup x ((n,d)::aBc env r)=some c
    rw [List.lookup_cons,beq_eq_false_iff_ne.mpr hx]
    exact ih
noncomputable def aIg (σ:St) (is:List Nat):St:=is.map fun i=>(σ[i]?).join
noncomputable def aIe (te:TE) (tc:Option TT) (g:TG) (ts:St) (caps:St) (Q:VK):It->Hp->Prop:=fun J H1=>∀ acc,H1 acc=none ->
 ∃ W:Nat->Nat->List V->Hp->Prop,(∃ m,W 0 m [] (upd H1 acc (.lst [])))/\∀ i m ys H,W i m ys H ->
  H acc=some (.lst ys)/\((J.stop i H/\Q (.ref acc) H)∨(ys.length < sizeLine/\J.go i H/\∀ (us:St) x H',us.length=ts.length->J.yld i H x H'->g x (us++caps) H' fun σ2 H2 =>
   (∃ us2,us2.length=ts.length/\σ2=us2++caps) /\
   let made:=te σ2
   let next:=fun y H3=>H3 acc=some (.lst ys)/\∃ m',m' < m/\W (i+1) m' (ys++[y]) (upd H3 acc (.lst (ys++[y])))
   match tc with
   | none=>made H2 next
   | some c=>c σ2 H2 fun b H3=>if b=true then made H3 next else ∃ m',m' < m/\W (i+1) m' ys H3))
noncomputable def aS4 (wi:TI) (te:TE) (tc:Option TT) (g:TG) (k:Nat) (is:List Nat):TE:=fun σ H Q=>wi σ H (aIe te tc g (List.replicate k none) (aIg σ is) Q)
section
variable {X:Cx} {scope:Scope} {N tn names:List Str} {is:List Nat} {elt iter tg:Expr} {ifs:List Expr} {pos:Pos} {wi:TI} {te:TE} {tc:Option TT} {g:TG}
structure aIk (X:Cx) (scope:Scope) (tn names:List Str) (is:List Nat):Prop where
 cls:(∀ x∈names,∃ c,X.env.cells.lookup x=some c)->closureFor scope X.env=pure (aBc X.env names)
 nocell:∀ y∈scope.names,y.2≠.cell
 kind:scope.kind=.function
 nms:∀ y∈scope.names,y.2=.local->scope.names.lookup y.1=some .local
 slots:∀ (j i:Nat) (x:Str),is[j]?=some i->names[j]?=some x->X.N[i]?=some x
 len:is.length=names.length
 outk:∀ x∈names,X.env.kindOf x=some .cell∨X.env.kindOf x=some .free
 ink:∀ x∈names,(relabel scope X.env).names.lookup x=some .cell∨(relabel scope X.env).names.lookup x=some .free
 free:∀ x,((relabel scope X.env).names.lookup x=some .cell∨(relabel scope X.env).names.lookup x=some .free)->x∈names
theorem aGb {env:Env}:∀ (l:List (Str×NameKind)) (acc:List (Str×Addr)),(∀ x∈(l.filter fun y=>y.2==.free).map (·.1),∃ c,env.cells.lookup x=some c) ->
  (forIn l acc fun (x:Str×NameKind) (cs:List (Str×Addr))=>(if (x.2==.free)=true then (do let a ← cellOf env x.1; pure (ForInStep.yield ((x.1,a)::cs))) else pure (ForInStep.yield cs)):Sem (List (Str×Addr)))
   = pure ((((l.filter fun y=>y.2==.free).map (·.1)).reverse.filterMap fun n=>(env.cells.lookup n).map fun c=>(n,c))++acc)
 | [],acc,_=>rfl
 | (n,k)::r,acc,h=>by
  rw [List.forIn_cons]
  by_cases hk:(k==NameKind.free)=true
  ·have hf:((n,k)::r).filter (fun y=>y.2==.free)=(n,k)::r.filter fun y=>y.2==.free:=by rw [List.filter_cons]; exact if_pos hk
   rw [hf] at h ⊢
   obtain ⟨c,e⟩:=h n (by simp)
   have e1:cellOf env n=pure c:=by unfold cellOf; rw [e]
   show (((if (k==NameKind.free)=true then (do let a ← cellOf env n; pure (ForInStep.yield ((n,a)::acc))) else pure (ForInStep.yield acc)):Sem _) >>= _)=_
   rw [if_pos hk,e1]
   have ih:=aGb r ((n,c)::acc) fun x hx=>h x (by simp at hx ⊢; exact .inr hx)
   have e2:(((n,k)::r.filter fun y=>y.2==.free).map (·.1)).reverse.filterMap (fun n=>(env.cells.lookup n).map fun c=>(n,c))=((r.filter fun y=>y.2==.free).map (·.1)).reverse.filterMap (fun n=>(env.cells.lookup n).map fun c=>(n,c))++[(n,c)]:=by
    rw [List.map_cons,List.reverse_cons,List.filterMap_append,List.filterMap_cons,e]
    rfl
   rw [e2,List.append_assoc]
   exact ih
  ·have hf:((n,k)::r).filter (fun y=>y.2==.free)=r.filter fun y=>y.2==.free:=by rw [List.filter_cons]; exact if_neg hk
   rw [hf] at h ⊢
   show (((if (k==NameKind.free)=true then (do let a ← cellOf env n; pure (ForInStep.yield ((n,a)::acc))) else pure (ForInStep.yield acc)):Sem _) >>= _)=_
   rw [if_neg hk]
   exact aGb r acc h
theorem aIf {scope:Scope} {env:Env} {names:List Str} (hn:((scope.names.filter fun y=>y.2==.free).map (·.1)).reverse=names) (h:∀ x∈names,∃ c,env.cells.lookup x=some c) :
  closureFor scope env=pure (aBc env names):=by
 unfold closureFor aBc
 have q:=aGb (env:=env) scope.names [] fun x hx=>h x (by rw [← hn]; exact List.mem_reverse.mpr hx)
 rw [hn,List.append_nil] at q
 show (_ >>= fun r=>pure r)=_
 have q2:(forIn scope.names ([]:List (Str×Addr)) fun (x:Str×NameKind) (cs:List (Str×Addr))=>match x with
   | (name,kind)=>(if (kind==.free)=true then (do let a ← cellOf env name; pure (ForInStep.yield ((name,a)::cs))) else pure (ForInStep.yield cs)):Sem (List (Str×Addr)))=pure (names.filterMap fun n=>(env.cells.lookup n).map fun c=>(n,c)):=q
 first
  | exact (congrArg (fun z=>z >>= fun r=>pure r) q2)
  | simpa using q2
noncomputable def aTd (scope sc:Scope):Scope:={ scope with names:=scope.names.map fun (n,k)=>if (k==.free&&sc.kind==.function&&sc.names.lookup n==some .cell) then (n,.cell) else (n,k) }
theorem aB7 {X:Cx} {scope sc:Scope} {N tn names:List Str} {is:List Nat} (hsc:X.env.scope=sc) (hN:X.N=N) (h1:((scope.names.filter fun y=>y.2==.free).map (·.1)).reverse=names) (h2:∀ y∈scope.names,y.2≠.cell) (h3:scope.kind=.function)
  (h4:∀ y∈scope.names,y.2=.local->scope.names.lookup y.1=some .local) (h5:(is.map fun i=>N[i]?)=names.map some) (h6:∀ x∈names,sc.names.lookup x=some .cell∨sc.names.lookup x=some .free)
  (h7:∀ x∈names,(aTd scope sc).names.lookup x=some .cell∨(aTd scope sc).names.lookup x=some .free) (h8:∀ y∈(aTd scope sc).names,(y.2=.cell∨y.2=.free)->y.1∈names):aIk X scope tn names is:=by
 subst hsc hN
 have hr:relabel scope X.env=aTd scope X.env.scope:=rfl
 refine ⟨aIf h1,h2,h3,h4,fun j i x e1 e2=>?_,?_,h6,?_,fun x hx=>?_⟩
 ·have q:=congrArg (fun l=>l[j]?) h5
  simp only [List.getElem?_map,e1,e2,Option.map_some] at q
  exact Option.some.inj q
 ·have q:=congrArg List.length h5
  simpa using q
 ·rw [hr]; exact h7
 ·rw [hr] at hx
  have mem:∀ {l:List (Str×NameKind)} {k:NameKind},l.lookup x=some k->(x,k)∈l:=fun {l} {k}=>by
   induction l with
   | nil=>intro e; cases e
   | cons y r ih =>
    intro e
    obtain ⟨n,k'⟩:=y
    rw [List.lookup_cons] at e
    by_cases hx:x=n
    ·subst hx
     rw [beq_self_eq_true] at e
     cases e
     exact List.mem_cons_self
    ·rw [beq_eq_false_iff_ne.mpr hx] at e
     exact List.mem_cons_of_mem _ (ih e)
  rcases hx with hx | hx
  ·exact h8 _ (mem hx) (.inl rfl)
  ·exact h8 _ (mem hx) (.inr rfl)
theorem aSk {X:Cx} {scope:Scope} {tn names:List Str} {is:List Nat} (C:aIk X scope tn names is) {pins:List (Addr×Obj)} {σ:St} {H:Hp} {s:Shared} (I:Inv X pins σ H s) {acc:Addr} {fp:List Addr}
  {s3:Shared} {h1:Heap} {t4:Nat} (I3:Inv X pins σ (upd H acc (.lst [])) s3) (hf:∀ b∈fp,aPz X pins H b) (hfl:∀ b∈fp,b < s3.heap.objs.size) (hacc:∀ b∈fp,b≠acc)
  (ns:h1.Ns s3.heap.objs.size fun _=>none) (kp:∀ b o,s3.heap.get? b=some o->h1.get? b=some o) :
  Inv (aA1 X scope (aBc X.env names) (tn++names) s3.heap.objs.size s3 (upd H acc (.lst [])) fp) [] (List.replicate tn.length none++aIg σ is) (upd H acc (.lst [])) { s3 with heap:=h1,toks:=t4 }:=by
 have ok:=I3.ok
 have hC:∀ x c,(aBc X.env names).lookup x=some c->X.env.cells.lookup x=some c:=fun x c h=>aDt h
 have cellLt:∀ x c,X.env.cells.lookup x=some c->c < s3.heap.objs.size:=fun x c e=>let ⟨v,z⟩:=I3.cell x c e; z.lt
 refine ⟨⟨ok.mod,?_,ok.glob,ok.blt,Nat.le_refl _,fun x y c a b=>ok.inj x y c (hC _ _ a) (hC _ _ b),fun x hx=>?_,fun _ _ z=>absurd z (by simp [aA1]),ok.hd,ok.frames,.inl rfl,fun b hb=>?_,fun b o e=>I3.bs b o e,Nat.le_trans ok.bsz I3.sz,fun b o e hb=>?_,fun b hb z=>?_,I3.stack,fun b hb=>I3.stkFree b hb⟩,
  rfl,I3.bare,Un.kept kp,⟨_,ns,fun i x v e1 e2 e3=>?_⟩,fun x c e=>?_,?_,fun x c e=>I3.freeC x c (hC _ _ e),fun p hp=>absurd hp (by simp [aA1]),I3.hok.kept kp,?_⟩
 ·show (relabel scope X.env).kind=.function
  exact C.kind
 ·have hm:=C.free x hx
  obtain ⟨c,e⟩:=ok.has x (C.outk x hm)
  exact ⟨c,aGc hm e⟩
 ·refine ⟨Nat.ne_of_lt (hfl b hb),fun x c e=>(hf b hb).2.2.2.2.1 x c (hC _ _ e)⟩
 ·rcases (hf b hb).2.2.2.1 with z | z
  ·exact ok.noex b o e z
  ·have:=Nat.lt_of_lt_of_le (Heap.lt_size e) ok.bsz
   omega
 ·have:=I3.stkSub b z
  rcases List.mem_cons.mp this with q | q
  ·exact (hf b hb).2.1 q
  ·exact (hf b hb).2.2.1 q
 ·by_cases hi:i < tn.length
  ·rw [List.getElem?_append_left (by rw [List.length_replicate]; exact hi),List.getElem?_replicate] at e2
   rw [if_pos hi] at e2
   cases e2
  ·have e1:(tn++names)[i]?=some x:=e1
   rw [List.getElem?_append_right (by omega)] at e1
   rw [List.getElem?_append_right (by rw [List.length_replicate]; omega),List.length_replicate] at e2
   generalize hj:i - tn.length=j at e1 e2
   unfold aIg at e2
   rw [List.getElem?_map] at e2
   cases e4:is[j]? with
   | none=>rw [e4] at e2; cases e2
   | some i0 =>
    rw [e4] at e2
    have e5:(σ[i0]?).join=some v:=Option.some.inj e2
    have e6:σ[i0]?=some (some v):=by
     cases q:σ[i0]? with
     | none=>rw [q] at e5; cases e5
     | some o=>rw [q] at e5; exact congrArg some e5
    have hx:x∈names:=List.mem_of_getElem? e1
    obtain ⟨m,hm,look⟩:=I3.loc
    have hv:Vis X.env.scope x:=by
     rcases C.outk x hx with q | q
     ·exact .inr (.inl q)
     ·exact .inr (.inr q)
    obtain ⟨u,ru,lk⟩:=look i0 x v (C.slots j i0 x e4 e1) e6 hv
    refine ⟨u,ru,.inr ⟨C.ink x hx,?_⟩⟩
    rcases lk with ⟨q,_⟩ | ⟨_,c,ec,z⟩
    ·rcases C.outk x hx with q' | q' <;> (rw [q] at q'; cases q')
    ·exact ⟨c,aGc hx ec,let ⟨o,a,b⟩:=z; ⟨o,kp _ _ a,b⟩⟩
 ·obtain ⟨v,o,a,b⟩:=I3.cell x c (hC _ _ e)
  exact ⟨v,o,kp _ _ a,b⟩
 ·exact I3.hok.fresh (Nat.le_refl _)
 ·show (List.replicate tn.length none++aIg σ is).length=(tn++names).length
  rw [List.length_append,List.length_append,List.length_replicate]
  unfold aIg
  rw [List.length_map,C.len]
theorem aL9 {prog:Program} {w:World} {A:Around} {R:Result->Shared->Prop} {s:Shared} {elt target iter:Expr} {ifs:List Expr} {scope:Scope} {pos:Pos} {it acc:Value} {env:Env} (I:Nat->Shared->Prop)
  (turn:∀ n s,I n s->wpAny (model prog w) A (pyNext it) (fun r s₁=>match r with
   | none=>R (.ok .next) s₁
   | some v=>wpAny (model prog w) A (letOwnedTupleGo target it v) (fun _ s₁'=>wpAny (model prog w) A (assign target env v) (fun _ s₂ =>
     wpAny (model prog w) A (forIn ifs true fun c r=>if r=true then do let ok ← isTrue c env (eval c env); pure (ForInStep.yield ok) else pure (ForInStep.yield r)) (fun ok s₃ =>
      if ok=true then wpAny (model prog w) A (eval elt env) (fun x s₄ =>
       wpAny (model prog w) A (call (.builtin "list.append") [acc,x]) (fun _ s₅=>∃ m,m < n/\I m s₅) (fun _ _=>False) s₄) (fun _ _=>False) s₃
      else ∃ m,m < n/\I m s₃) (fun _ _=>False) s₂) (fun _ _=>False) s₁') (fun _ _=>False) s₁) (fun _ _=>False) s)
  (n:Nat) (h:I n s) :
  codeAny (model prog w) A (.compLoop (.ListComp elt [⟨target,iter,ifs,0⟩] scope pos) 0 it acc env) R s:=by
 refine codeAny_loop rfl I (fun n s hI=>?_) n h
 show wpAny _ A ((compTurn (.ListComp elt [⟨target,iter,ifs,0⟩] scope pos) 0 it acc env).onRaise (fun x=>do noteFrame x env; theTreesLotGoes x)) _ _ s
 refine wpAny_noted ?_
 rw [compTurn_list]
 refine wpAny_bind (wpAny_standAt (wpAny_bind (wpAny_mono (turn n s hI) (fun r s₁ h₁=>?_) fun _ _ h'=>h'.elim)))
 cases r with
 | none=>exact wpAny_pure h₁
 | some v =>
  refine wpAny_bind (wpAny_mono h₁ (fun _ s₁' h₁'=>?_) fun _ _ h'=>h'.elim)
  refine wpAny_bind (wpAny_mono h₁' (fun _ s₂ h₂=>wpAny_bind (wpAny_mono h₂ (fun ok s₃ h₃=>?_) fun _ _ h'=>h'.elim)) fun _ _ h'=>h'.elim)
  cases ok with
  | false=>exact wpAny_pure ⟨rfl,h₃⟩
  | true =>
   exact wpAny_bind (wpAny_bind (wpAny_mono h₃ (fun x s₄ h₄=>wpAny_bind (wpAny_mono h₄ (fun _ s₅ h₅=>wpAny_pure (wpAny_pure ⟨rfl,h₅⟩)) fun _ _ h'=>h'.elim)) fun _ _ h'=>h'.elim))
noncomputable def PTs (X':Cx) (ifs:List Expr) (tc:Option TT):Prop:=match ifs,tc with
 | [],none=>True
 | [c],some t=>PT X' c t
 | _,_=>False
theorem aB9 {X':Cx}:PTs X' [] none:=trivial
theorem aJ4 {X':Cx} {c:Expr} {t:TT} (h:PT X' c t):PTs X' [c] (some t):=h
structure TurnG (ok:Cx->Prop) (P:Program) (w:World) (K:PySem.W.Frag) (tg:Expr) (J:It) (fp:List Addr) (it:Addr) (tn:Nat->Heap->Prop):Prop where
 mem:it∈fp
 obj:∀ i h,tn i h->∀ b∈fp,∃ o,h.get? b=some o/\∀ v,o.data≠.cell v
 keep:∀ i h h',tn i h->(∀ b∈fp,∀ o,h.get? b=some o->h'.get? b=some o)->tn i h'
 item:∀ (X:Cx),X.prog=P->X.w=w->X.K=K->ok X->∀ (i:Nat) (pins:List (Addr×Obj)) (s:Shared) (σ:St) (H:Hp) (E:Value->Shared->Prop),Inv X pins σ H s->(∀ b∈fp,aPz X pins H b)->tn i s.heap->J.go i H ->
  wpAny (model P w) X.A (pyNext (.ref it)) (fun r s1=>∃ u,r=some u/\wpAny (model P w) X.A (letOwnedTupleGo tg (.ref it) u) (fun _ s2=>∃ x H',Inv X pins σ H' s2/\aB6 x u/\J.yld i H x H'/\tn (i+1) s2.heap/\∀ b∈fp,H' b=none) E s1) E s
 done:∀ (X:Cx),X.prog=P->X.w=w->X.K=K->ok X->∀ (i:Nat) (pins:List (Addr×Obj)) (s:Shared) (σ:St) (H:Hp) (E:Value->Shared->Prop),Inv X pins σ H s->(∀ b∈fp,aPz X pins H b)->tn i s.heap->J.stop i H ->
  wpAny (model P w) X.A (pyNext (.ref it)) (fun r s1=>r=none/\Inv X pins σ H s1) E s
 self:∀ (A:Around) (i:Nat) (s:Shared) (Q:Value->Shared->Prop) (E:Value->Shared->Prop),tn i s.heap->Q (.ref it) s->wpAny (model P w) A (pyIter (.ref it)) Q E s
noncomputable def PIEG (ok:Cx->Prop) (X:Cx) (pins:List (Addr×Obj)) (σ:St) (tg:Expr) (R:It->Hp->Prop) (itv:Value) (s2:Shared):Prop :=
 ∃ (it:Addr) (fp:List Addr) (tn:Nat->Heap->Prop) (J:It) (H':Hp),itv=.ref it/\Inv X pins σ H' s2/\TurnG ok X.prog X.w X.K tg J fp it tn/\tn 0 s2.heap/\(∀ b∈fp,aPz X pins H' b)/\R J H'
theorem aWn {X:Cx} {pins:List (Addr×Obj)} {σ:St} {tg:Expr} {R:It->Hp->Prop} {itv:Value} {s2:Shared} (h:PIE X pins σ tg R itv s2):PIEG (fun X=>X.calm=true) X pins σ tg R itv s2 :=
 let ⟨it,fp,tn,J,H',a,b,T,c,d,e⟩:=h; ⟨it,fp,tn,J,H',a,b,⟨T.mem,T.obj,T.keep,T.item,T.done,T.self⟩,c,d,e⟩
theorem aOx {X:Cx} {ok:Cx->Prop} {scope:Scope} {tn names:List Str} {is:List Nat} (ck:aIk X scope tn names is) (hc:∀ C s0 H0 ex,ok (aA1 X scope (aBc X.env names) (tn++names) C s0 H0 ex)) {elt tg iter:Expr} {ifs:List Expr} {pos:Pos} {te:TE} {tc:Option TT} {g:TG}
  (hg:∀ C s0 H0 ex,PG (aA1 X scope (aBc X.env names) (tn++names) C s0 H0 ex) tg g) (he:∀ C s0 H0 ex,PE (aA1 X scope (aBc X.env names) (tn++names) C s0 H0 ex) elt te)
  (ht:∀ C s0 H0 ex,PTs (aA1 X scope (aBc X.env names) (tn++names) C s0 H0 ex) ifs tc)
  {pins:List (Addr×Obj)} {σ:St} {Q:VK} {s2:Shared} {itv:Value} {E:Value->Shared->Prop} (h2:PIEG ok X pins σ tg (aIe te tc g (List.replicate tn.length none) (aIg σ is) Q) itv s2) {RR:Value->Addr->Result->Shared->Prop}
  (fin:∀ (acc C:Addr) (H':Hp) (s':Shared) (m:Str->Option Value),Inv X pins σ H' s'->s'.heap.Ns C m->H' C=none->C≠X.env.locals->(∀ x c,X.env.cells.lookup x=some c->c≠C)->(∀ p∈X.pn++pins,p.1≠C)->X.s₀.heap.objs.size<=C->Q (.ref acc) H' ->
   RR (.ref acc) C (.ok .next) s') :
  wpAny (model X.prog X.w) X.A (newList []) (fun acc s₃=>wpAny (model X.prog X.w) X.A (newFunctionEnv scope X.env.globals (aBc X.env names) [] X.env.qual none .none (some X.env)) (fun cenv s₄ =>
   codeAny (model X.prog X.w) X.A (.compStart (.ListComp elt [⟨tg,iter,ifs,0⟩] scope pos) 0 itv acc { cenv with scope:=relabel scope X.env }) (RR acc cenv.locals) s₄) E s₃) E s2:=by
 obtain ⟨it,fp,tnx,J,H2,rfl,I2,T,st2,f2,hK⟩:=h2
 have facc:H2 s2.heap.objs.size=none:=I2.hok.fresh (Nat.le_refl _)
 refine wpAny_newObj_type ?_ (by show 0<=sizeLine; decide)
 have fpl:∀ b∈fp,b < s2.heap.objs.size:=fun b hb=>let ⟨o,e,_⟩:=T.obj 0 _ st2 b hb; Heap.lt_size e
 generalize hs3:({ s2 with heap:=s2.heap.push { cls:=.type "list",data:=.seq ([]:List Value).toArray } }:Shared)=s3
 have hsz3:s3.heap.objs.size=s2.heap.objs.size+1:=by rw [← hs3]; exact Heap.size_push ..
 have keep23:∀ b o,s2.heap.get? b=some o->s3.heap.get? b=some o:=fun b o e=>by rw [← hs3]; exact Heap.get?_push_of_some _ e
 have I3:Inv X pins σ (upd H2 s2.heap.objs.size (.lst [])) s3:=by
  rw [← hs3]
  exact I2.laid (t':=s2.toks) (fun b u e=>Heap.get?_push_of_some _ e) (Nat.le_refl _) ⟨Nat.zero_le _,[],0,.nil,Heap.get?_push_size _ rfl⟩
 refine wpAny_newFunctionEnv ck.nocell (by intro y hy; simp at hy) (fun h1 ns sb=>?_) ck.kind
 have kp:∀ b o,s3.heap.get? b=some o->h1.get? b=some o:=fun b o e=>sb.extBut b o (Nat.ne_of_lt (Heap.lt_size e)) (Heap.get?_push_of_some _ e)
 have lt3:∀ b:Addr,b < s2.heap.objs.size->b < s3.heap.objs.size:=fun b hb=>Nat.lt_of_lt_of_le hb (by rw [hsz3]; exact Nat.le_succ _)
 have ns':h1.Ns s3.heap.objs.size fun _=>none:=ns
 have I4:=aSk (t4:=s3.toks+([]:List (Str×Value)).length) ck I2 I3 f2 (fun b hb=>lt3 b (fpl b hb)) (fun b hb=>Nat.ne_of_lt (fpl b hb)) ns' kp
 generalize hX':aA1 X scope (aBc X.env names) (tn++names) s3.heap.objs.size s3 (upd H2 s2.heap.objs.size (.lst [])) fp=X' at I4
 have hA:X'.A=X.A:=by rw [← hX']; rfl
 have hP:X'.prog=X.prog:=by rw [← hX']; rfl
 have hW:X'.w=X.w:=by rw [← hX']; rfl
 have hKK:X'.K=X.K:=by rw [← hX']; rfl
 have hcm:ok X':=by rw [← hX']; exact hc _ _ _ _
 have hfs:X'.fs=frs X.stack:=by rw [← hX']; rfl
 have hex:X'.ex=fp:=by rw [← hX']; rfl
 have hloc:X'.env.locals=s3.heap.objs.size:=by rw [← hX']; rfl
 have hs0:X'.s₀=s3:=by rw [← hX']; rfl
 have hH0:X'.H₀=upd H2 s2.heap.objs.size (.lst []):=by rw [← hX']; rfl
 have hxe:X'.xe=fun _ _=>False:=by rw [← hX']; rfl
 have henv:X'.env=compEnvC scope (aBc X.env names) s3.heap.objs.size X.env:=by rw [← hX']; rfl
 have hg':PG X' tg g:=by rw [← hX']; exact hg _ _ _ _
 have he':PE X' elt te:=by rw [← hX']; exact he _ _ _ _
 have ht':PTs X' ifs tc:=by rw [← hX']; exact ht _ _ _ _
 have cells':∀ x c,X'.env.cells.lookup x=some c->X.env.cells.lookup x=some c:=fun x c e=>by rw [henv] at e; exact aDt e
 obtain ⟨W,⟨m0,w0⟩,turn⟩:=hK _ facc
 have stat:∀ {H':Hp},(∀ b∈fp,H' b=none)->∀ b∈fp,aPz X' [] H' b:=fun {H'} hn b hb=>by
  refine ⟨hn b hb,?_,?_,.inl (by rw [hex]; exact hb),fun x c e=>(f2 b hb).2.2.2.2.1 x c (cells' x c e),fun p hp=>?_⟩
  ·rw [hloc]; exact Nat.ne_of_lt (lt3 b (fpl b hb))
  ·rw [hfs]
   intro z
   rcases List.mem_cons.mp (I2.stkSub b z) with q | q
   ·exact (f2 b hb).2.1 q
   ·exact (f2 b hb).2.2.1 q
  ·rw [← hX'] at hp
   exact absurd hp (by simp [aA1])
 have loop:∀ s4:Shared,Inv X' [] (List.replicate tn.length none++aIg σ is) (upd H2 s2.heap.objs.size (.lst [])) s4->tnx 0 s4.heap ->
   codeAny (model X.prog X.w) X.A (.compLoop (.ListComp elt [⟨tg,iter,ifs,0⟩] scope pos) 0 (.ref it) (.ref s2.heap.objs.size) X'.env) (RR (.ref s2.heap.objs.size) s3.heap.objs.size) s4:=by
  intro s4 J4 st4
  refine aL9 (fun n s'=>∃ i ys ts H',Inv X' [] (ts++aIg σ is) H' s'/\ts.length=tn.length/\tnx i s'.heap/\(∀ b∈fp,H' b=none)/\W i n ys H') ?_ m0
   ⟨0,[],_,_,J4,List.length_replicate ..,st4,fun b hb=>by rw [aBg (Nat.ne_of_lt (fpl b hb))]; exact (f2 b hb).1,w0⟩
  rintro n s5 ⟨i,ys,ts,H5,I5,hts,st5,fr5,w5⟩
  obtain ⟨hacc5,hcase⟩:=turn i n ys H5 w5
  have hrun:∀ {α:Type} {m:Sem α} {Q':α->Shared->Prop} {s':Shared},wpAny (model X'.prog X'.w) X'.A m Q' (fun _ _=>False) s'->wpAny (model X.prog X.w) X.A m Q' (fun _ _=>False) s':=fun {α m Q' s'} z=>by
   rw [hP,hW,hA] at z; exact z
  rcases hcase with ⟨stop,qn⟩ | ⟨hlen,go,step⟩
  ·have z:=T.done X' hP hW hKK hcm i [] s5 _ H5 (fun _ _=>False) I5 (stat fr5) st5 stop
   rw [hA] at z
   refine thn z fun r s6 ⟨hr,I6⟩=>?_
   subst hr
   -- the frame around,behind the block
   have u23:Un (frs X.stack) fp H2 (upd H2 s2.heap.objs.size (.lst [])) s2.heap s3.heap:=Un.laid keep23 (Nat.le_refl _) facc
   have u36:Un (frs X.stack) fp (upd H2 s2.heap.objs.size (.lst [])) H5 s3.heap s6.heap:=by
    have b:=I6.base
    rw [hfs,hex,hs0,hH0] at b
    exact b
   have hos:s6.os=s2.os:=by
    have b:=I6.os
    rw [hs0,← hs3] at b
    exact b
   have IO:Inv X pins σ H5 s6:=I2.call' hos (u23.trans u36) (by have b:=I6.hok; rw [hP,hW] at b; exact b) I6.bare fun b hb=>by
    obtain ⟨_,f1,f2',f3,f4,f5⟩:=f2 b hb
    exact ⟨f3,f1,fun x c e=>f4 x c e,fun p hp=>f5 p hp⟩
   obtain ⟨m,hm,_⟩:=I6.loc
   rw [hloc] at hm
   have fC:H5 s3.heap.objs.size=none:=by have b:=I6.free; rw [hloc] at b; exact b
   refine fin _ _ H5 s6 m IO hm fC ?_ (fun x c e=>?_) (fun p hp=>?_) ?_ qn
   ·exact Nat.ne_of_gt (Nat.lt_of_lt_of_le I2.lt (by omega))
   ·obtain ⟨v,z⟩:=I2.cell x c e
    exact Nat.ne_of_lt (lt3 c z.lt)
   ·exact Nat.ne_of_lt (lt3 p.1 (Heap.lt_size (I2.pin p hp).1))
   ·exact Nat.le_trans I2.sz (by omega)
  ·have z:=T.item X' hP hW hKK hcm i [] s5 _ H5 (fun _ _=>False) I5 (stat fr5) st5 go
   rw [hA] at z
   refine thn z fun r s6 ⟨u,hr,h6⟩=>?_
   subst hr
   refine thn h6 fun _ s7 ⟨x,H7,I7,r7,y7,st7,fr7⟩=>?_
   have I7':=I7.pinned (stat fr7) (T.obj _ _ st7)
   have zg:=hg' _ s7 _ H7 x u _ I7' r7 (step ts x H7 (by rw [hts,List.length_replicate]) y7)
   rw [hxe] at zg
   refine thn (hrun zg) fun _ s8 ⟨σ8,H8,I8,⟨us2,hus,e8⟩,q8⟩=>?_
   subst e8
   rw [List.length_replicate] at hus
   have back:∀ {s9:Shared} {H9:Hp},Inv X' ([]++aEe fp s7.heap) (us2++aIg σ is) H9 s9->tnx (i+1) s9.heap/\∀ b∈fp,H9 b=none:=fun {s9 H9} I9=>by
    refine ⟨T.keep _ _ _ st7 fun b hb o e=>(I9.pin (b,o) (List.mem_append_right _ (List.mem_append_right _ (aC3 hb e)))).1,fun b hb=>?_⟩
    obtain ⟨o,e,d⟩:=T.obj _ _ st7 b hb
    exact (I9.pin (b,o) (List.mem_append_right _ (List.mem_append_right _ (aC3 hb e)))).2.1
   have made:∀ {s9:Shared} {H9:Hp},Inv X' ([]++aEe fp s7.heap) (us2++aIg σ is) H9 s9->te (us2++aIg σ is) H9 (fun y H3=>H3 s2.heap.objs.size=some (.lst ys)/\∃ m',m' < n/\W (i+1) m' (ys++[y]) (upd H3 s2.heap.objs.size (.lst (ys++[y])))) ->
     wpAny (model X.prog X.w) X.A (eval elt X'.env) (fun x s₄=>wpAny (model X.prog X.w) X.A (call (.builtin "list.append") [.ref s2.heap.objs.size,x]) (fun _ s₅=>∃ m,m < n/\∃ i ys ts H',Inv X' [] (ts++aIg σ is) H' s₅/\ts.length=tn.length/\tnx i s₅.heap/\(∀ b∈fp,H' b=none)/\W i m ys H') (fun _ _=>False) s₄) (fun _ _=>False) s9:=fun {s9 H9} I9 q9=>by
    have ze:=he' _ s9 _ H9 _ I9 q9
    rw [hxe] at ze
    refine thn (hrun ze) fun y s10 ⟨yv,H10,I10,ry,ha10,m',hm',w10⟩=>?_
    have za:=(aBm (X:=X')) ([]++aEe fp s7.heap) s10 (us2++aIg σ is) H10 (.ref s2.heap.objs.size) [yv] (.ref s2.heap.objs.size) [y] (fun v H'=>v=.non/\H'=upd H10 s2.heap.objs.size (.lst (ys++[yv]))) I10 rfl (.cons ry .nil)
     ⟨_,ys,yv,rfl,rfl,ha10,hlen,rfl,rfl⟩
    rw [hxe] at za
    refine thn (hrun za) fun _ s11 ⟨_,H11,I11,_,_,e11⟩=>?_
    subst e11
    obtain ⟨b1,b2⟩:=back I11
    exact ⟨m',hm',i+1,_,us2,_,I11.unpinned,hus,b1,b2,w10⟩
   cases ifs with
   | nil =>
    cases tc with
    | some t=>exact ht'.elim
    | none=>exact wpAny_tests_nil (by rw [if_pos rfl]; exact made I8 q8)
   | cons c0 aDj =>
    cases aDj with
    | cons _ _=>cases tc <;> exact ht'.elim
    | nil =>
     cases tc with
     | none=>exact ht'.elim
     | some t =>
      have zt:=(show PT X' c0 t from ht') _ s8 _ H8 _ I8 q8
      rw [hxe] at zt
      refine wpAny_tests_one (thn (hrun zt) fun ok s9 ⟨H9,I9,q9⟩=>?_)
      cases ok with
      | true=>rw [if_pos rfl]; rw [if_pos rfl] at q9; exact made I9 q9
      | false =>
       rw [if_neg Bool.false_ne_true]
       rw [if_neg Bool.false_ne_true] at q9
       obtain ⟨m',hm',w9⟩:=q9
       obtain ⟨b1,b2⟩:=back I9
       exact ⟨m',hm',i+1,_,us2,_,I9.unpinned,hus,b1,b2,w9⟩
 have st4:tnx 0 h1:=T.keep _ _ _ st2 fun b hb o e=>kp b o (keep23 b o e)
 have goal0:=loop _ I4 st4
 rw [henv] at goal0
 refine codeAny_compStart_list goal0 (T.self X.A 0 _ _ _ st4 goal0)
theorem aC8 (ck:aIk X scope tn names is) (hc:X.calm=true) (hi:PI X tg iter wi)
  (hg:∀ C s0 H0 ex,PG (aA1 X scope (aBc X.env names) (tn++names) C s0 H0 ex) tg g) (he:∀ C s0 H0 ex,PE (aA1 X scope (aBc X.env names) (tn++names) C s0 H0 ex) elt te)
  (ht:∀ C s0 H0 ex,PTs (aA1 X scope (aBc X.env names) (tn++names) C s0 H0 ex) ifs tc) (hs:∀ x,foldedSetIterable iter X.env x=pure x:=by intro _; rfl) :
  PE X (.ListComp elt [⟨tg,iter,ifs,0⟩] scope pos) (aS4 wi te tc g tn.length is):=by
 intro pins s σ H Q I h
 rw [eval_ListComp]
 refine wpAny_comprehension_free (use:=none) rfl hs (ck.cls fun x hx=>I.ok.has x (ck.outk x hx)) ck.kind ck.nms (thn (hi pins s σ H _ I h) fun v s1 h1=>thn h1 fun itv s2 h2=>?_)
 refine aOx (RR:=fun acc C=>compPost (model X.prog X.w) X.A X.xe none (EP X pins σ Q) acc C) (ok:=fun X=>X.calm=true) ck (fun _ _ _ _=>hc) hg he ht (aWn h2) fun acc C H' s' m I' hn hC hL hcl hpn hsz q=>?_
 refine ⟨m,hn,fun h' sb=>⟨.ref acc,H',?_,rfl,q⟩⟩
 exact I'.turned (t':=s'.toks) (fun b o hb e=>sb.extBut b o hb e) hC hL (.inr hsz) hcl hpn
theorem aHt {i:Nat} {x:Str} {pos' spos:Pos} (hN:X.N.Nodup) (hi':X.N[i]?=some x) (hx:Loc X.env.scope x) (ck:aIk X scope tn names is) (hc:X.calm=true) (hi:PI X tg iter wi)
  (hg:∀ C s0 H0 ex,PG (aA1 X scope (aBc X.env names) (tn++names) C s0 H0 ex) tg g) (he:∀ C s0 H0 ex,PE (aA1 X scope (aBc X.env names) (tn++names) C s0 H0 ex) elt te)
  (ht:∀ C s0 H0 ex,PTs (aA1 X scope (aBc X.env names) (tn++names) C s0 H0 ex) ifs tc) (hs:∀ x,foldedSetIterable iter X.env x=pure x:=by intro _; rfl)
  (hsw:swapsWith (.ListComp elt [⟨tg,iter,ifs,0⟩] scope pos) (some (.Name x pos')) spos.line X.env=pure true:=by rfl) (hf:X.fn x=true∨X.env.scope.names.lookup x=some .local:=by first | exact .inl rfl | exact .inr rfl | assumption) :
  PS X (.Assign [.Name x pos'] (.ListComp elt [⟨tg,iter,ifs,0⟩] scope pos) spos) (tAsg (aS4 wi te tc g tn.length is) (aGr i)):=by
 intro pins s σ H D I h
 rw [exec_Assign_Name_used _ _ _ _ hsw]
 refine wpAny_bind (wpAny_standAt (wpAny_bind ?_))
 show wpAny _ X.A (do let _ ← comprehension (.ListComp elt [⟨tg,iter,ifs,0⟩] scope pos) scope X.env _ (newList []) false (eval iter X.env) (some (assign (.Name x pos') X.env))) _ _ s
 refine wpAny_bind (wpAny_mono (wpAny_comprehension_free (use:=some (assign (.Name x pos') X.env)) (Q:=fun _ s'=>SP X pins D .next s') rfl hs (ck.cls fun x hx=>I.ok.has x (ck.outk x hx)) ck.kind ck.nms
  (thn (hi pins s σ H _ I h) fun v s1 h1=>thn h1 fun itv s2 h2=>?_)) (fun _ s' hq=>wpAny_pure (wpAny_pure hq)) fun _ _ e=>e)
 refine aOx (RR:=fun acc C=>compPost (model X.prog X.w) X.A X.xe (some (assign (.Name x pos') X.env)) (fun _ s'=>SP X pins D .next s') acc C) (ok:=fun X=>X.calm=true) ck (fun _ _ _ _=>hc) hg he ht (aWn h2) fun acc C H' s' m I' hn hC hL hcl hpn hsz q=>?_
 show wpAny _ X.A (assign (.Name x pos') X.env (.ref acc)) _ _ s'
 refine wpAny_assign_Name (aK0 I' hN hi' hx (v:=.ref acc) rfl (fun s'' I'' sb=>?_) hf)
 obtain ⟨a,sb,ha⟩:=sb
 have hne:C≠a:=by
  rcases ha with rfl | ha
  ·exact hL
  ·exact fun z=>hcl x a ha z.symm
 refine ⟨m,hn.sameBut sb hne,fun h' sb'=>⟨_,H',I''.turned (t':=s''.toks) (fun b o hb e=>sb'.extBut b o hb e) hC hL (.inr hsz) hcl hpn,q⟩⟩
end
section
variable {te:TE} {Q:VK} {H:Hp} {σ caps:St} {wi:TI} {tc:TT} {K:PySem.W.Frag}
theorem aZ8 {o:Option TT} {g:TG} {k:Nat} {is:List Nat} (h:wi σ H (aIe te o g (List.replicate k none) (aIg σ is) Q)):aS4 wi te o g k is σ H Q:=h
theorem bBi {us:St} (h:us.length=1):∃ o,us=[o]:=by
 cases us with
 | nil=>cases h
 | cons o r =>
  cases r with
  | nil=>exact ⟨o,rfl⟩
  | cons _ _=>simp at h
noncomputable def cW (n:Nat) (acc:Addr) (Pv:Nat->List V->Hp->Prop):Nat->Nat->List V->Hp->Prop:=fun i m ys H1=>m=n - i/\i<=n/\ys.length=i/\H1 acc=some (.lst ys)/\Pv i ys H1
noncomputable def aPs (n:Nat) (acc:Addr) (Pv:Nat->List V->Hp->Prop) (ys:List V) (i:Nat):VK:=fun y H3=>H3 acc=some (.lst ys)/\∃ m',m' < n - i/\cW n acc Pv (i+1) m' (ys++[y]) (upd H3 acc (.lst (ys++[y])))
theorem aDu {n:Nat} {acc:Addr} {Pv:Nat->List V->Hp->Prop} {ys:List V} {i:Nat} {y:V} {H3:Hp} (hlt:i < n) (hl:ys.length=i) (ha:H3 acc=some (.lst ys)) (p:Pv (i+1) (ys++[y]) (upd H3 acc (.lst (ys++[y])))):aPs n acc Pv ys i y H3 :=
 ⟨ha,n - (i+1),by omega,rfl,hlt,by rw [List.length_append,hl]; rfl,aAd,p⟩
theorem aMy {lo:Int} {n:Nat} (hn:n<=1000) (Pv:Addr->Nat->List V->Hp->Prop) (h0:∀ acc,H acc=none->Pv acc 0 [] (upd H acc (.lst [])))
  (hs:∀ acc i ys H1,H acc=none->i < n->ys.length=i->H1 acc=some (.lst ys)->Pv acc i ys H1->te (some (.int (lo+i))::caps) H1 (aPs n acc (Pv acc) ys i))
  (hd:∀ acc ys H1,H acc=none->H1 acc=some (.lst ys)->ys.length=n->Pv acc n ys H1->Q (.ref acc) H1):aIe te none (aGr 0) (List.replicate 1 none) caps Q (Itr lo n) H:=by
 intro acc hacc
 refine ⟨cW n acc (Pv acc),⟨n,by simp,Nat.zero_le _,rfl,aAd,h0 acc hacc⟩,?_⟩
 rintro i m ys H1 ⟨rfl,hi,hl,ha,p⟩
 refine ⟨ha,?_⟩
 by_cases hlt:i < n
 ·refine .inr ⟨aC4 (by omega),hlt,fun us x H' hu y=>?_⟩
  obtain ⟨e,y⟩:=y
  subst e y
  obtain ⟨o,rfl⟩:=bBi hu
  exact ⟨⟨[some (.int (lo+i))],rfl,rfl⟩,hs acc i ys _ hacc hlt hl ha p⟩
 ·have e:i=n:=by omega
  subst e
  exact .inl ⟨Nat.le_refl _,hd acc ys H1 hacc ha hl p⟩
theorem aJ2 {a:Addr} {xs:List V} (hn:xs.length<=1000) (Pv:Addr->Nat->List V->Hp->Prop) (h0:∀ acc,H acc=none->Pv acc 0 [] (upd H acc (.lst []))) (hl':∀ acc i ys H1,H acc=none->i<=xs.length->Pv acc i ys H1->SqL K H1 a xs)
  (hs:∀ acc i ys H1 x,H acc=none->xs[i]?=some x->ys.length=i->H1 acc=some (.lst ys)->Pv acc i ys H1->te (some x::caps) H1 (aPs xs.length acc (Pv acc) ys i))
  (hd:∀ acc ys H1,H acc=none->H1 acc=some (.lst ys)->ys.length=xs.length->Pv acc xs.length ys H1->Q (.ref acc) H1):aIe te none (aGr 0) (List.replicate 1 none) caps Q (Itl K a) H:=by
 intro acc hacc
 refine ⟨cW xs.length acc (Pv acc),⟨xs.length,by simp,Nat.zero_le _,rfl,aAd,h0 acc hacc⟩,?_⟩
 rintro i m ys H1 ⟨rfl,hi,hl,ha,p⟩
 have q:=hl' acc i ys H1 hacc hi p
 refine ⟨ha,?_⟩
 by_cases hlt:i < xs.length
 ·refine .inr ⟨aC4 (by omega),⟨xs,xs[i],q,by simp [hlt]⟩,fun us x H' hu y=>?_⟩
  obtain ⟨e,y⟩:=y
  subst e
  obtain ⟨o,rfl⟩:=bBi hu
  exact ⟨⟨[some x],rfl,rfl⟩,hs acc i ys _ x hacc (y xs q) hl ha p⟩
 ·have e:i=xs.length:=by omega
  subst e
  exact .inl ⟨⟨xs,q,Nat.le_refl _⟩,hd acc ys H1 hacc ha hl p⟩
end
end L2
namespace L2
open PySem
section
variable {H:Hp} {Q:VK} {u v:V} {a b c d:Int} {m n:Nat} {K:PySem.W.Frag}
end
end L2
namespace L2
theorem aQt {t b f g:Int} (hb:b≠0) (hg:0 < g) (hc:Int.gcd f g=1) (e:f * b=t * g):(Rat.divInt t b).num=f/\((Rat.divInt t b).den:Int)=g:=by
 obtain ⟨n,rfl⟩:∃ n:Nat,g=n:=⟨g.toNat,by omega⟩
 have h1:Rat.divInt t b=Rat.divInt f n:=(Rat.divInt_eq_divInt_iff hb (by omega)).mpr e.symm
 have h2:Rat.divInt f n=Rat.mk' f n (by omega) hc:=Rat.num_divInt_den (Rat.mk' f n (by omega) hc)
 rw [h1,h2]
 exact ⟨rfl,rfl⟩
end L2
namespace L2
end L2
namespace L2
open PySem
noncomputable def Ris (xs:Array Nat):Prop:=xs.toList.Pairwise (· < ·)
theorem Ris.lt {xs:Array Nat} (h:Ris xs) {i j:Nat} (hij:i < j) (hj:j < xs.size):xs[i]'(Nat.lt_trans hij hj) < xs[j]:=by
 have:=List.pairwise_iff_getElem.mp h i j (by simpa using Nat.lt_trans hij hj) (by simpa using hj) hij
 simpa using this
theorem Ris.le {xs:Array Nat} (h:Ris xs) {i j:Nat} (hij:i<=j) (hj:j < xs.size):xs[i]'(Nat.lt_of_le_of_lt hij hj)<=xs[j]:=by
 rcases Nat.lt_or_eq_of_le hij with h1 | h1
 ·exact Nat.le_of_lt (h.lt h1 hj)
 ·subst h1
  exact Nat.le_refl _
noncomputable def aX0 (xs:Array Nat) (j r:Nat):Prop:=r<=xs.size/\(∀ k (hk:k < xs.size),k < r->xs[k] < j)/\∀ k (hk:k < xs.size),r<=k->j<=xs[k]
theorem aKs {xs:Array Nat} {j:Nat} (h:Ris xs):∀ (fuel lo hi:Nat),hi - lo<=fuel->lo<=hi->hi<=xs.size->(∀ k (hk:k < xs.size),k < lo->xs[k] < j)->(∀ k (hk:k < xs.size),hi<=k->j<=xs[k])->aX0 xs j (SetTable.below.go xs j fuel lo hi)
 | 0,lo,hi,hf,hl,hh,h1,h2=>by
  have:lo=hi:=by omega
  subst this
  unfold SetTable.below.go
  exact ⟨hh,h1,h2⟩
 | fuel+1,lo,hi,hf,hl,hh,h1,h2=>by
  unfold SetTable.below.go
  by_cases hlt:lo < hi
  ·rw [if_pos hlt]
   have hm:(lo+hi) / 2 < xs.size:=by omega
   have eg:xs.getD ((lo+hi) / 2) j=xs[(lo+hi) / 2]:=by simp [Array.getD,hm]
   show aX0 xs j (if xs.getD ((lo+hi) / 2) j < j then SetTable.below.go xs j fuel ((lo+hi) / 2+1) hi else SetTable.below.go xs j fuel lo ((lo+hi) / 2))
   rw [eg]
   by_cases c:xs[(lo+hi) / 2] < j
   ·rw [if_pos c]
    exact aKs h fuel ((lo+hi) / 2+1) hi (by omega) (by omega) hh (fun k hk hk'=>Nat.lt_of_le_of_lt (h.le (show k<=(lo+hi) / 2 by omega) hm) c) h2
   ·rw [if_neg c]
    exact aKs h fuel lo ((lo+hi) / 2) (by omega) (by omega) (by omega) h1 fun k hk hk'=>Nat.le_trans (Nat.le_of_not_lt c) (h.le hk' hk)
  ·rw [if_neg hlt]
   have:lo=hi:=by omega
   subst this
   exact ⟨hh,h1,h2⟩
theorem aNm {xs:Array Nat} (j:Nat) (h:Ris xs):aX0 xs j (SetTable.below xs j) :=
 aKs h xs.size 0 xs.size (by omega) (Nat.zero_le _) (Nat.le_refl _) (fun _ _ z=>absurd z (Nat.not_lt_zero _)) fun k hk z=>absurd hk (Nat.not_lt.mpr z)
theorem aV1 {xs:Array Nat} {j:Nat} (h:Ris xs) (hn:xs[SetTable.below xs j]?≠some j):Ris (SetTable.insertAt xs (SetTable.below xs j) j):=by
 have st:=aNm j h
 generalize SetTable.below xs j=p at st hn
 unfold Ris
 rw [SetTable.toList_insertAt]
 have h1:∀ a∈xs.toList.take p,a < j:=fun a ha=>by
  obtain ⟨k,hk,e⟩:=List.getElem_of_mem ha
  rw [List.length_take] at hk
  rw [List.getElem_take,Array.getElem_toList] at e
  rw [← e]
  exact st.2.1 k (by simp at hk; omega) (by omega)
 have h2:∀ a∈xs.toList.drop p,j < a:=fun a ha=>by
  obtain ⟨k,hk,e⟩:=List.getElem_of_mem ha
  rw [List.length_drop,Array.length_toList] at hk
  rw [List.getElem_drop,Array.getElem_toList] at e
  have hp:p < xs.size:=by omega
  have h0:=st.2.2 p hp (Nat.le_refl _)
  have h3:xs[p]≠j:=fun z=>hn (by rw [Array.getElem?_eq_getElem hp,z])
  have h4:=h.le (show p<=p+k by omega) (by omega)
  rw [← e]
  omega
 refine List.pairwise_append.mpr ⟨h.sublist (List.take_sublist ..),List.pairwise_cons.mpr ⟨h2,h.sublist (List.drop_sublist ..)⟩,fun a ha b hb=>?_⟩
 rcases List.mem_cons.mp hb with rfl | hb
 ·exact h1 a ha
 ·exact Nat.lt_trans (h1 a ha) (h2 b hb)
noncomputable def Tb (w:World) (t:SetTable) (_n:Nat):Prop:=t.led=!(w.params.followText "set-order")/\Ris t.place/\t.dummies=#[]
theorem aFi (n:Nat):Ris (Array.range n):=by
 unfold Ris
 rw [Array.toList_range]
 exact List.pairwise_lt_range
theorem aR1 (j:Nat):SetTable.has #[] j=false:=by
 unfold SetTable.has
 simp
theorem aI6 {t:SetTable} {f:Nat->Int} {h:Int} (ht:t.dummies=#[]):∀ (fuel:Nat) (p:SetTable.Probe) (j:Nat) (d:Option Nat),SetTable.probe.go t f h fuel p=some (.empty j d)->p.dummy=none->t.slot j=.empty/\d=none
 | 0,p,j,d,e,hd=>nomatch e
 | fuel+1,p,j,d,e,hd=>by
  have adv:(t.advance p).dummy=none:=by
   unfold SetTable.advance
   split
   ·exact hd
   ·exact hd
  unfold SetTable.probe.go at e
  cases hs:t.slot p.j with
  | empty =>
   rw [hs] at e
   have e:=Option.some.inj e
   injection e with e1 e2
   exact ⟨by rw [← e1]; exact hs,by rw [← e2]; exact hd⟩
  | dummy =>
   exfalso
   unfold SetTable.slot at hs
   dsimp only at hs
   rw [ht,aR1,if_neg Bool.false_ne_true] at hs
   split at hs <;> cases hs
  | live i =>
   rw [hs] at e
   dsimp only at e
   split at e
   ·exact nomatch Option.some.inj e
   ·exact aI6 ht fuel _ j d e adv
theorem aQk {t:SetTable} {j:Nat} (h:t.slot j=.empty):t.place[SetTable.below t.place j]?≠some j:=fun e=>by
 unfold SetTable.slot at h
 dsimp only at h
 rw [e,if_pos (by simp)] at h
 cases h
theorem aRs {w:World} {t:SetTable} {n m:Nat} (es:Array (Int×Value)) (h:Int) (x:Value) (ht:Tb w t n):Tb w (layNew t es h x).2.1 m:=by
 obtain ⟨h1,h2,h3⟩:=ht
 unfold layNew
 split
 ·rename_i slot wd e
  dsimp only
  have hp:Tb w (t.put slot).1 m:=by
   have hs:t.place[SetTable.below t.place slot]?≠some slot:=by
    unfold SetTable.freeSlot at e
    split at e
    ·rename_i j d e'
     have:=aI6 h3 _ _ _ _ e' rfl
     rw [this.2] at e
     have e:=Option.some.inj e
     have e1:j=slot:=congrArg Prod.fst e
     rw [← e1]
     exact aQk this.1
    ·cases e
   unfold SetTable.put
   refine ⟨h1,aV1 h2 hs,?_⟩
   show (if SetTable.has t.dummies slot then _ else t.dummies)=#[]
   rw [h3,aR1,if_neg Bool.false_ne_true]
  unfold SetTable.orStandIn
  split
  ·exact hp
  ·exact ⟨h1,aFi _,rfl⟩
 ·exact ⟨h1,aFi _,rfl⟩
theorem aTc {w:World} {t:SetTable} {n m:Nat} (es:Array (Int×Value)) (k:Nat) (ht:Tb w t n):Tb w (relayAll t es k).2.1 m:=by
 obtain ⟨h1,h2,h3⟩:=ht
 unfold relayAll
 split
 ·rename_i t' order e
  unfold SetTable.relaid SetTable.laid at e
  cases hc:SetTable.layClean (SetTable.sizeAbove k - 1) (Array.map (fun x=>x.fst) es) with
  | none =>
   rw [hc] at e
   exact nomatch e
  | some ow =>
  rw [hc] at e
  have e3:=congrArg Prod.fst (Option.some.inj e)
  dsimp only at e3
  subst e3
  dsimp only
  split
  ·refine ⟨h1,?_,rfl⟩
   unfold Ris
   dsimp only
   refine List.pairwise_map.mpr (List.pairwise_filterMap.mpr (List.pairwise_lt_range.imp fun {a b} hab x hx y hy=>?_))
   simp only [Option.map_eq_some_iff] at hx hy
   obtain ⟨_,_,rfl⟩:=hx
   obtain ⟨_,_,rfl⟩:=hy
   exact hab
  ·exact ⟨h1,aFi _,rfl⟩
 ·exact ⟨h1,aFi _,rfl⟩
section
variable {prog:Program} {w:World} {K:Type} [DecidableEq K] {knd:KeyKind prog w K} {A:Around} {E:Value -> Shared -> Prop} {s:Shared}
theorem aUi {a:Addr} {o:Obj} {es:Array (Int×Value)} {ep:Nat} {t:SetTable} {x:Value} {k:K} {Q:Bool->Shared->Prop} (hsc:x.scannable=true) (hkey:knd.is k x=true) (ho:s.heap.get? a=some o) (hex:o.ExactSet) (hd:o.data=.set es ep t)
  (hel:ElemsOf knd es.toList) (hb:es.size+1 < scanBound) (hf:t.fits es.size=true) (ht:Tb w t es.size)
  (h1:(∃ e∈es.toList,knd.is k e.2=true)->Q false s)
  (h2:(∀ e∈es.toList,knd.is k e.2=false)->∀ (h':Heap) (es':Array (Int×Value)) (t':SetTable) (ep':Nat),Heap.SameBut a s.heap h'->h'.get? a=some { o with data:=.set es' ep' t' }->List.Perm es'.toList (es.toList++[(knd.hash k,x)]) ->
   t'.fits es'.size=true->Tb w t' es'.size->Q true { s with heap:=h' }):wpAny (model prog w) A (setAddHashed a x (knd.hash k)) Q E s:=by
 unfold setAddHashed setAddHashedIn
 refine wpAny_holding (wpAny_bind (wpAny_setState_of ho hd hf ?_))
 dsimp only
 rw [byScan_of hsc (by omega) hel,if_pos rfl]
 unfold setAddByScan
 refine wpAny_bind (wpAny_bind (wpAny_rule (wpAny_bind (wpAny_setScan_of hkey ho hd hf hel ?_))))
 cases hr:List.findIdx? (fun e=>knd.is k e.2) es.toList with
 | some j =>
  obtain ⟨hj,hpj,_⟩:=List.findIdx?_eq_some_iff_getElem.mp hr
  exact wpAny_pure (wpAny_pure (h1 ⟨_,List.getElem_mem hj,hpj⟩))
 | none =>
  have hno:=List.findIdx?_eq_none_iff.mp hr
  have gw:∀ (b:Bool) {s₁:Shared} {Q':Unit->Shared->Prop},Q' () s₁->wpAny (model prog w) A (match b with | true=>rule "set.scan.the-table-gave-way" | false=>pure ()) Q' E s₁:=fun b _ _ hq=>by
   cases b
   ·exact wpAny_pure hq
   ·exact wpAny_rule hq
  dsimp only
  have p1:=layNew_perm t es (knd.hash k) x
  have f1:=layNew_fits t es (knd.hash k) x
  have l1:=fun m=>aRs (m:=m) es (knd.hash k) x ht
  generalize layNew t es (knd.hash k) x=L at p1 f1 l1 ⊢
  obtain ⟨es1,t1,wd,gave⟩:=L
  dsimp only at p1 f1 l1 ⊢
  rw [Array.toList_push] at p1
  have hz:es1.size=es.size+1:=by
   have:=p1.length_eq
   simpa using this
  refine wpAny_bind (gw _ ?_)
  have fin:∀ t2:SetTable,t2.fits es1.size=true->(∀ m,Tb w t2 m)->wpAny (model prog w) A (do
    storeSet a es1 t2
    if (!wd&&t2.tooFull)=true then do
      (match (relayAll t2 es1 (SetTable.grown es1.size)).2.2 with | true=>rule "set.scan.the-table-gave-way" | false=>pure ())
      storeSet a (relayAll t2 es1 (SetTable.grown es1.size)).1 (relayAll t2 es1 (SetTable.grown es1.size)).2.1
      pure (some true)
     else pure (some true)) (fun r s₁=>wpAny (model prog w) A (match r with | some added=>pure added | none=>setAddHashedIn a x (knd.hash k) 99999) Q E s₁) E s:=by
   intro t2 f2 l2
   refine wpAny_bind (wpAny_storeSet_of ho hd ?_ (fits_of_scanBound (by omega)))
   have g1:(s.heap.update a (Obj.putSet es1 t2)).get? a=some { o with data:=.set es1 (ep+1) t2 }:=by
    have z:=Heap.get?_update_self (Obj.putSet es1 t2) ho (by rw [putSet_of es1 t2 hd]; rfl)
    rw [putSet_of es1 t2 hd] at z
    exact z
   have sb1:=Heap.SameBut.update s.heap a (Obj.putSet es1 t2)
   split
   ·have p2:=relayAll_perm t2 es1 (SetTable.grown es1.size)
    have f3:=relayAll_fits t2 es1 (SetTable.grown es1.size)
    have l3:=fun m=>aTc (m:=m) es1 (SetTable.grown es1.size) (l2 0)
    generalize relayAll t2 es1 (SetTable.grown es1.size)=R at p2 f3 l3 ⊢
    obtain ⟨es2,t3,gave2⟩:=R
    dsimp only at p2 f3 l3 ⊢
    have hz2:es2.size=es1.size:=by
     have:=p2.length_eq
     simpa using this
    refine wpAny_bind (gw _ ?_)
    refine wpAny_bind (wpAny_storeSet_of g1 rfl ?_ (fits_of_scanBound (by omega)))
    have g2:((s.heap.update a (Obj.putSet es1 t2)).update a (Obj.putSet es2 t3)).get? a=some { o with data:=.set es2 (ep+1+1) t3 }:=by
     have z:=Heap.get?_update_self (Obj.putSet es2 t3) g1 (by rw [putSet_of es2 t3 rfl]; rfl)
     rw [putSet_of es2 t3 rfl] at z
     exact z
    exact wpAny_pure (wpAny_pure (h2 hno _ es2 t3 _ (sb1.trans (Heap.SameBut.update _ a _)) g2 (p2.trans p1) f3 (l3 _)))
   ·exact wpAny_pure (wpAny_pure (h2 hno _ es1 t2 _ sb1 g1 p1 f2 (l2 _)))
  split
  ·refine wpAny_bind ?_
   rw [hashByValue_scannable 8 hsc]
   refine wpAny_pure ?_
   cases plainKind x with
   | true =>
    rw [if_pos rfl]
    exact fin t1 f1 l1
   | false =>
    rw [if_neg Bool.false_ne_true]
    exact fin _ (SetTable.fits_plain_off f1) l1
  ·refine wpAny_bind (wpAny_pure ?_)
   rw [if_pos rfl]
   exact fin t1 f1 l1
end
end L2
namespace L2
open PySem
section
variable {prog:Program} {w:World} {A:Around} {E:Value -> Shared -> Prop} {s:Shared}
end
end L2
namespace L2
open PySem
noncomputable def aUv (es:Array (Int×Value)) (ep:Nat) (t:SetTable):Obj:={ cls:=.type "set",dict:=none,data:=.set es ep t,slots:=#[] }
section
variable {prog:Program} {w:World} {A:Around} {E:Value -> Shared -> Prop} {s:Shared}
variable {a it:Addr} {es:Array (Int×Value)} {ep i n:Nat} {t:SetTable} {first:Value}
end
end L2
namespace L2
open PySem
section
variable {prog:Program} {w:World} {A:Around} {E:Value -> Shared -> Prop} {s:Shared} {a it:Addr} {es:Array (Int×Value)} {ep i n:Nat} {t:SetTable}
end
section
variable {prog:Program} {w:World} {A:Around} {E:Value -> Shared -> Prop} {s:Shared} {a it:Addr} {es:Array (Int×Value)} {ep i n:Nat} {t:SetTable}
end
end L2
namespace L2
open PySem
section
variable {prog:Program} {w:World} {A A₂:Around} {E:Value -> Shared -> Prop} {s:Shared} {a it:Addr} {es:Array (Int×Value)} {ep i n:Nat} {t:SetTable}
end
end L2
namespace L2
open PySem
section
variable {prog:Program} {w:World} {A A₂:Around} {E:Value -> Shared -> Prop} {s:Shared} {a it:Addr} {es:Array (Int×Value)} {ep i n:Nat} {t:SetTable}
end
end L2
namespace L2
open PySem
noncomputable def aP4 (prog:Program) (w:World):KeyKind prog w Str where
 is:=Value.isStrOf
 hash:=hashStr w
 inj:=Value.isStrOf_inj
 byValue:=fun k v h=>by obtain ⟨t,rfl⟩:=Value.isStrOf_shape h; rfl
 pyHash:=fun hv h=>by obtain ⟨t,rfl⟩:=Value.isStrOf_shape hv; exact wpAny_pyHash_str h
 eqBool:=fun hu hv h=>by
  obtain ⟨t,rfl⟩:=Value.isStrOf_shape hu
  obtain ⟨u,rfl⟩:=Value.isStrOf_shape hv
  exact wpAny_eqBool_str h
 «strs»:=fun k x t v h=>by
  obtain ⟨u,e⟩:=Value.isStrOf_shape h
  cases e
  cases v <;> rfl
noncomputable def aX5:Value->Str
 | .str x _=>x
 | _=>⟨#[]⟩
noncomputable def aFx (w:World) (h:Heap) (a:Addr) (xs:List Str):Prop :=
 ∃ es ep t,h.get? a=some (aUv es ep t)/\(∀ e∈es.toList,∃ y u,e=(hashStr w y,Value.str y u))/\es.toList.map (fun e=>aX5 e.2)=xs/\xs.Nodup/\es.size < scanBound/\t.fits es.size=true/\Tb w t es.size
theorem aFx.at {w:World} {h h':Heap} {a:Addr} {xs:List Str} (x:aFx w h a xs) (e:∀ o,h.get? a=some o->h'.get? a=some o):aFx w h' a xs :=
 let ⟨es,ep,t,g,r⟩:=x; ⟨es,ep,t,e _ g,r⟩
section
variable {prog:Program} {w:World} {A:Around} {E:Value -> Shared -> Prop} {s:Shared} {a:Addr}
theorem bCe {xs:List Str} {y:Str} {tk:Tok} {Q:Bool->Shared->Prop} (hx:aFx w s.heap a xs) (hb:xs.length+1 < scanBound)
  (h1:y∈xs->Q false s) (h2:y∉xs->∀ h' xs',Heap.SameBut a s.heap h'->xs'.Perm (xs++[y])->aFx w h' a xs'->Q true { s with heap:=h' }):wpAny (model prog w) A (setAddHashed a (.str y tk) (hashStr w y)) Q E s:=by
 obtain ⟨es,ep,t,g,hel,hxs,hnd,hsz,hf,ht⟩:=hx
 have hl:xs.length=es.size:=by rw [← hxs]; simp
 have hE:ElemsOf (aP4 prog w) es.toList:=fun e he=>by
  obtain ⟨z,u,rfl⟩:=hel e he
  exact ⟨⟨z,by show Value.isStrOf z (.str z u)=true; simp [Value.isStrOf],rfl⟩,rfl⟩
 have his:∀ e∈es.toList,((aP4 prog w).is y e.2=true ↔ aX5 e.2=y):=fun e he=>by
  obtain ⟨z,u,rfl⟩:=hel e he
  constructor
  ·intro q
   obtain ⟨u',q'⟩:=Value.isStrOf_shape (show Value.isStrOf y (.str z u)=true from q)
   cases q'
   rfl
  ·intro q
   have q:z=y:=q
   subst q
   show Value.isStrOf z (.str z u)=true
   simp [Value.isStrOf]
 refine aUi (knd:=aP4 prog w) (k:=y) rfl (by show Value.isStrOf y (.str y tk)=true; simp [Value.isStrOf]) g ⟨rfl,rfl,rfl⟩ rfl hE (by omega) hf ht (fun ⟨e,he,q⟩=>h1 ?_) fun hno h' es' t' ep' sb g' hp hf' ht'=>h2 ?_ h' (es'.toList.map fun e=>aX5 e.2) sb ?_ ⟨es',ep',t',g',?_,rfl,?_,?_,hf',ht'⟩
 ·rw [← hxs]
  exact List.mem_map.mpr ⟨e,he,(his e he).mp q⟩
 ·intro hm
  rw [← hxs] at hm
  obtain ⟨e,he,q⟩:=List.mem_map.mp hm
  have:=hno e he
  rw [(his e he).mpr q] at this
  cases this
 ·have q:=hp.map fun e=>aX5 e.2
  rw [List.map_append,hxs] at q
  exact q
 ·intro e he
  rcases List.mem_append.mp (hp.mem_iff.mp he) with q | q
  ·exact hel e q
  ·rw [List.mem_singleton] at q
   exact ⟨y,tk,q⟩
 ·have q:=hp.map fun e=>aX5 e.2
  rw [List.map_append,hxs] at q
  refine q.nodup_iff.mpr (List.nodup_append.mpr ⟨hnd,by simp,fun z hz z' hz'=>?_⟩)
  have hz':z'=y:=by simpa [aX5] using hz'
  subst hz'
  rintro rfl
  rw [← hxs] at hz
  obtain ⟨e,he,q⟩:=List.mem_map.mp hz
  have:=hno e he
  rw [(his e he).mpr q] at this
  cases this
 ·have:=hp.length_eq
  simp at this
  omega
end
section
variable {prog:Program} {w:World} {A:Around} {R:Result -> Shared -> Prop} {I:Addr} {fp wr:List Addr} {G:Array GenState -> Array GenState -> Prop} {n:Nat} {P:Nat -> Value -> Prop} {St:Nat -> Shared -> Prop}
theorem aFw:entryFor table "set.update.loop"=some Builtin.«set.update.loop»:=entryFor_of_tree (by kernel_rfl)
theorem aC1:plainId "set.update.loop"=true:=by decide +kernel
theorem aXm (W:WalksS prog w A.in1 I fp wr G n P St) (S:Addr) (hSf:S∉fp) (val:Nat->Str) (hval:∀ i v,P i v->∃ t,v=.str (val i) t) (hb:n+1 < scanBound) :
  ∀ (k i:Nat) (s:Shared) (xs:List Str),n - i=k->i<=n->St i s->aFx w s.heap S xs->xs.length<=i->(∀ z,z∈xs ↔ ∃ j,j < i/\val j=z) ->
   (∀ s' xs',Moved (S::wr) G s s'->aFx w s'.heap S xs'->(∀ z,z∈xs' ↔ ∃ j,j < n/\val j=z)->R (.ok (.ret .none)) s') ->
   codeAny (model prog w) A (.builtin "set.update.loop" ⟨[.ref S,.ref I],[]⟩) R s:=by
 have hSw:S∉wr:=fun h=>hSf (W.sub _ h)
 have sub:∀ b∈wr,b∈S::wr:=fun b hb=>List.mem_cons_of_mem _ hb
 intro k
 induction k with
 | zero =>
  intro i s xs hk hi hst hS hl hm hR
  have:i=n:=by omega
  subst this
  refine codeAny_builtin aFw ?_
  rw [Around.under_plainId aC1 _]
  show wpAny _ A.in1 (pyNext (.ref I) >>= _) _ _ s
  refine wpAny_bind (W.done s _ _ hst fun s' mv=>wpAny_pure (hR s' xs (mv.mono sub) (hS.at fun o e=>mv.heap S _ hSw e) hm))
 | succ k ih =>
  intro i s xs hk hi hst hS hl hm hR
  have hlt:i < n:=by omega
  refine codeAny_builtin aFw ?_
  rw [Around.under_plainId aC1 _]
  show wpAny _ A.in1 (pyNext (.ref I) >>= _) _ _ s
  refine wpAny_bind (W.item i s _ _ hlt hst fun v s' hP hst' mv=>?_)
  obtain ⟨tk,rfl⟩:=hval i v hP
  have hS':aFx w s'.heap S xs:=hS.at fun o e=>mv.heap S _ hSw e
  show wpAny _ A.in1 (holding [Value.str (val i) tk] (setAdd S (.str (val i) tk)) >>= _) _ _ s'
  refine wpAny_bind (wpAny_holding ?_)
  unfold setAdd
  refine wpAny_holding (wpAny_bind (wpAny_pyHash_str ?_))
  have go:∀ (s2:Shared) (xs2:List Str),Moved (S::wr) G s s2->St (i+1) s2->aFx w s2.heap S xs2->xs2.length<=i+1->(∀ z,z∈xs2 ↔ z∈xs∨z=val i)->codeAny (model prog w) A (.builtin "set.update.loop" ⟨[.ref S,.ref I],[]⟩) R s2:=fun s2 xs2 mv2 st2 t2 l2 m2=>by
   refine ih (i+1) s2 xs2 (by omega) (by omega) st2 t2 l2 (fun z=>?_) fun s3 xs3 mv3 t3 m3=>hR s3 xs3 (Moved.trans W.gtrans mv2 mv3) t3 m3
   rw [m2,hm]
   constructor
   ·rintro (⟨j,hj,e⟩ | rfl)
    ·exact ⟨j,by omega,e⟩
    ·exact ⟨i,by omega,rfl⟩
   ·rintro ⟨j,hj,e⟩
    by_cases q:j < i
    ·exact .inl ⟨j,q,e⟩
    ·have:j=i:=by omega
     subst this
     exact .inr e.symm
  refine bCe (s:={ s' with toks:=s'.toks+1 }) hS' (by omega) (fun hin=>?_) fun hout h' xs' sb hp ht=>?_
  ·refine wpAny_pure ⟨plainId_quiet aC1 _,go _ xs ((mv.mono sub).then_heap (Nat.le_succ _) fun b o _ e=>e) ?_ hS' (by omega) fun z=>⟨.inl,fun q=>q.elim id fun e=>e ▸ hin⟩⟩
   exact W.frame _ s' _ _ hst' (Nat.le_succ _) fun b _ o e=>e
  ·refine wpAny_pure ⟨plainId_quiet aC1 _,go _ xs' ((mv.mono sub).then_heap (Nat.le_succ _) fun b o hb e=>?_) ?_ ht ?_ fun z=>?_⟩
   ·rw [sb.2 b (fun q:b=S=>hb (by rw [q]; exact List.mem_cons_self))]; exact e
   ·exact W.frame _ s' _ _ hst' (Nat.le_succ _) fun b hb o e=>by rw [sb.2 b (fun q:b=S=>hSf (by rw [← q]; exact hb))]; exact e
   ·have:=hp.length_eq
    simp at this
    omega
   ·rw [hp.mem_iff]
    simp
end
end L2
namespace L2
open PySem
section
variable {prog:Program} {w:World} {A:Around} {E:Value -> Shared -> Prop} {s:Shared}
noncomputable abbrev aB1 (w:World):Obj:=aUv #[] 0 (.fresh 0 0 (!(w.params.followText "set-order")))
theorem aTa (a:Value) {Q₁:Value->Shared->Prop} (h:Q₁ (.ref s.heap.objs.size) { s with heap:=s.heap.push (aB1 w) }) :
  codeAny (model prog w) A (.call (.builtin "set.__new__") ⟨[.type "set",a],[]⟩) (wants Q₁ E) s:=by
 refine codeAny_of_tree ?_
 show wpAny _ A.in1 (checkBuiltinCall "set.__new__" ⟨[.type "set",a],[]⟩ >>= fun _=>again (.builtin "set.__new__" ⟨[.type "set",a],[]⟩)) _ _ s
 refine wpAny_bind (wpAny_of_eq (F.newCall_set_1 a) (wpAny_pure ⟨plainId_quiet F.plain_set_new _,codeAny_builtin F.entry_set_new ?_⟩))
 rw [Around.under_plainId F.plain_set_new _]
 unfold Builtin.«set.__new__» Builtin.Frozenset.newClass
 have hsub:=sub_set_self
 obtain ⟨hp,g,d,tk,os⟩:=s
 dsimp only
 wp_walk
 refine wpAny_askSetting (wpAny_pure ?_)
 dsimp only
 simp only [newObj]
 exact wpAny_bind (wpAny_alloc (wpAny_pure (wpAny_pure h)))
theorem aP3 {h:Heap} {a:Addr} (g:h.get? a=some (aB1 w)):aFx w h a [] :=
 ⟨#[],0,_,g,fun e he=>by simp at he,rfl,List.nodup_nil,by decide,rfl,rfl,List.Pairwise.nil,rfl⟩
set_option maxRecDepth 100000 in
set_option maxHeartbeats 3200000 in
theorem aQm {l:Addr} {items:Array Value} {xs:List Str} {Q:Value->Shared->Prop} (hh:A.handled=none) (hl:s.heap.IsList l items) (hi:∀ (i:Nat) (v:Value),items[i]?=some v->∃ t,v=.str (xs.getD i ⟨#[]⟩) t) (hlen:items.size=xs.length) (hb:xs.length+1 < scanBound)
  (h:∀ h' tk ys,aFx w h' s.heap.objs.size ys->(∀ z,z∈ys ↔ z∈xs)->(∀ b o,b < s.heap.objs.size->s.heap.get? b=some o->h'.get? b=some o)->Q (.ref s.heap.objs.size) { s with heap:=h',toks:=tk }) :
  wpAny (model prog w) A (call (.type "set") [.ref l]) Q E s:=by
 obtain ⟨c,tl,hmro⟩:=F.called_set.mro
 have hmade:=F.called_set.made
 have hsub:=F.called_set.sub
 refine wpAny_call (codeAny_of_tree ?_)
 show wpAny _ _ (callAny (.type "set") _) _ _ _
 refine wpAny_pure ⟨Code.quiet_builtin _ (by decide +kernel),codeAny_builtin F.entry_type_call ?_⟩
 rw [Around.under_plain (weight_type_call_type "set" [.ref l] []) rfl]
 have h1:=F.called_set.notType
 have h2:=F.called_set.canCreate
 have hct:=F.typeCall_set_1 (.ref l)
 repeat (any_goals (first | assumption | wp_step))
 refine codeAny_mono (aTa (.ref l) (E:=E) (Q₁:=fun obj s₁=>obj=.ref s.heap.objs.size/\s₁={ s with heap:=s.heap.push (aB1 w) }) ⟨rfl,rfl⟩) fun r s₁ hr=>?_
 cases r with
 | error e=>exact hr
 | ok fl =>
  cases fl with
  | ret obj =>
   obtain ⟨rfl,rfl⟩:=hr
   have hS:(s.heap.push (aB1 w)).get? s.heap.objs.size=some (aB1 w):=Heap.get?_push_size _ rfl
   have hT:Shared.TypeIs { s with heap:=s.heap.push (aB1 w) } (.ref s.heap.objs.size) "set":=⟨_,hS,rfl⟩
   have hli:=F.called_set.init.lookup
   have hbi:=F.called_set.init.bind (.ref s.heap.objs.size)
   repeat (any_goals (first | assumption | wp_step))
   refine codeAny_mono (codeAny_call_builtin (R:=wants (fun r s₂=>r=.none/\∃ h' tk ys,s₂={ s with heap:=h',toks:=tk }/\aFx w h' s.heap.objs.size ys/\(∀ z,z∈ys ↔ z∈xs) /\
     (∀ b o,b < s.heap.objs.size->s.heap.get? b=some o->h'.get? b=some o)) E) F.called_set.init.plain F.entry_set_init (check_set_init_1 hT ?_)) fun r₂ s₂ hr₂=>?_
   ·obtain ⟨ol,hol,hcl,nl,hdl⟩:=hl
    obtain ⟨ocls,odict,odata,oslots⟩:=ol
    simp only at hcl hdl
    subst hcl; subst hdl
    have hol':(s.heap.push (aB1 w)).get? l=some { cls:=.type "list",dict:=odict,data:=.seq items nl,slots:=oslots }:=Heap.get?_push_of_some _ hol
    have hsls:=F.sub_list_set
    have hslf:=F.sub_list_frozenset
    have hne:(Value.type "list"==Value.type "dict")=false:=by decide
    have hl1:(s.heap.push (aB1 w)).IsList l items:=⟨_,hol',rfl,nl,rfl⟩
    unfold Builtin.«set.__init__» noKeywords Builtin.Frozenset.updateFrom
    generalize hPI:pyIter=PI
    wp_walk
    subst hPI
    refine wpAny_pyIter_list hl1 ?_
    refine wpAny_bind (wpAny_runValue ?_)
    have hlS:l < s.heap.objs.size:=Heap.lt_size hol
    have hh3:A.in1.in1.in1.handled=none:=by simp [hh]
    have zP:(s.heap.push (aB1 w)).objs.size=s.heap.objs.size+1:=Heap.size_push ..
    have hneI:l≠(s.heap.push (aB1 w)).objs.size:=by rw [zP]; exact Nat.ne_of_lt (Nat.lt_succ_of_lt hlS)
    have hSf:s.heap.objs.size∉[(s.heap.push (aB1 w)).objs.size,l]:=by
     rw [zP]
     simp only [List.mem_cons,List.not_mem_nil,or_false,not_or]
     exact ⟨Nat.ne_of_lt (Nat.lt_succ_self _),Nat.ne_of_gt hlS⟩
    refine aXm ((Walks.list hh3 _ l hneI items).toS) s.heap.objs.size hSf (fun i=>xs.getD i ⟨#[]⟩) hi (by rw [hlen]; exact hb) (items.size - 0) 0 _ [] (by omega) (Nat.zero_le _)
     ⟨⟨_,Heap.get?_push_size _ rfl,rfl,rfl⟩,(hl1.push _)⟩ (aP3 (Heap.get?_push_of_some _ hS)) (Nat.le_refl _) (fun z=>by simp) fun s' ys hm hS' hmem=>?_
    obtain ⟨h',g',d',tk',os'⟩:=s'
    have eg:g'=s.gens:=hm.gens
    have ed:d'=s.drawn:=hm.drawn
    have eo:os'=s.os:=hm.os
    subst eg ed eo
    refine wpAny_pure ?_
    refine wpAny_pure ⟨rfl,h',tk',ys,rfl,hS',fun z=>?_,fun b o hb e=>?_⟩
    ·rw [hmem,hlen]
     constructor
     ·rintro ⟨j,hj,rfl⟩
      have:xs.getD j ⟨#[]⟩=xs[j]:=by simp [List.getD,hj]
      rw [this]
      exact List.getElem_mem hj
     ·intro hz
      obtain ⟨j,hj,e⟩:=List.getElem_of_mem hz
      exact ⟨j,hj,by simp [List.getD,hj,e]⟩
    ·have hb1:b≠s.heap.objs.size:=Nat.ne_of_lt hb
     have hb2:b≠(s.heap.push (aB1 w)).objs.size:=by rw [zP]; exact Nat.ne_of_lt (Nat.lt_succ_of_lt hb)
     exact hm.heap b o (by simp only [List.mem_cons,List.not_mem_nil,or_false,not_or]; exact ⟨hb1,hb2⟩) (Heap.get?_push_of_some _ (Heap.get?_push_of_some _ e))
   ·cases r₂ with
    | error e=>exact hr₂
    | ok fl₂ =>
     cases fl₂ with
     | ret r =>
      obtain ⟨rfl,h',tk,ys,rfl,q1,q2,q3⟩:=hr₂
      repeat (any_goals (first | assumption | wp_step))
      exact h _ _ _ q1 q2 q3
     | _=>exact hr₂.elim
  | _=>exact hr.elim
end
end L2
namespace L2
open PySem PyProof.Rows
section
variable {prog:Program} {w:World} {A:Around} {E:Value -> Shared -> Prop} {s:Shared}
end
end L2
namespace L2
open PySem PyProof.Rows
section
variable {prog:Program} {w:World} {K:Type} [DecidableEq K] {knd:KeyKind prog w K} {A A₂:Around} {E:Value -> Shared -> Prop} {s:Shared} {a it:Addr} {kvs:List (K×Value)} {ep:Nat}
end
end L2
namespace L2
open PySem PyProof.Rows
section
variable {prog:Program} {w:World} {A:Around} {E:Value -> Shared -> Prop} {s:Shared}
variable {K:Type} [DecidableEq K] {knd:KeyKind prog w K}
end
end L2
namespace L2
open PySem PyProof.Rows
section
variable {prog:Program} {w:World} {K:Type} [DecidableEq K] {knd:KeyKind prog w K} {A:Around} {E:Value -> Shared -> Prop} {s:Shared} {d:Addr} {kvs:List (K×Value)} {k:K} {key dflt:Value}
end
end L2
namespace L2
open PySem PyProof.Rows
end L2
namespace L2
open PySem PySem.Spec PyProof.Rows
noncomputable def melt (a:Addr) (H:Hp):Hp:=fun b=>if b=a then (match H a with | some (.frz _ u)=>some u | o=>o) else H b
section
variable {X:Cx} {pins:List (Addr×Obj)} {σ:St} {H:Hp} {s:Shared} {a:Addr}
end
section
variable {X:Cx} {tg:Expr}
variable {scope:Scope} {tn names:List Str} {is:List Nat} {elt iter:Expr} {ifs:List Expr} {pos:Pos} {tl te:TE} {tc:Option TT} {g:TG}
end
end L2
namespace L2
open PySem PySem.Spec PyProof.Rows
section
variable {X:Cx} {pins:List (Addr×Obj)} {σ:St} {H:Hp} {s:Shared} {tg:Expr}
noncomputable def SetS (w:World) (a:Addr) (xs:List Str):HO:=.ext fun h=>aFx w h a xs
theorem aFa:∀ {xs:List Str} {us:List Value},aB0 (xs.map V.str) us->StrsAre us xs
 | [],_,.nil=>.nil
 | x::xs,_,.cons r t=>by
  obtain ⟨tk,rfl⟩:=r
  exact .cons x tk (aFa t)
noncomputable def bAg (w:World):List V->Hp->VK->Prop:=fun vs H Q=>∃ (p:Addr) (xs:List Str),vs=[.ref p]/\H p=some (.lst (xs.map V.str))/\xs.length<=4000/\∀ (l:Addr) (ys:List Str),H l=none->ys.Nodup->(∀ z,z∈ys ↔ z∈xs)->Q (.ref l) (upd H l (SetS w l ys))
theorem aMa (hc:X.calm=true):aDm X (.type "set") (bAg X.w):=by
 intro pins s σ H vs us Q I r h
 obtain ⟨p,xs,rfl,hp,hl,q⟩:=h
 obtain ⟨u,rfl,ru⟩:=r.one
 cases ru
 obtain ⟨z,its,n,rv,hlen,e⟩:=I.lstM hp
 have hst:=aFa rv
 refine aQm (items:=its.toArray) (xs:=xs) (I.ok.hd hc) ⟨_,e,rfl,n,rfl⟩ (fun i v hv=>?_) (by rw [List.size_toArray,← hlen,List.length_map]) (by unfold scanBound; omega) fun h' tk ys ht hm kp=>?_
 ·have hv:its[i]?=some v:=by simpa using hv
  have hi:i < xs.length:=by
   have:=(List.getElem?_eq_some_iff.mp hv).1
   rw [← hlen,List.length_map] at this
   exact this
  obtain ⟨u,e1,r1⟩:=rv.get (i:=i) (x:=.str xs[i]) (by simp [hi])
  rw [hv] at e1
  cases e1
  obtain ⟨t,rfl⟩:=r1
  exact ⟨t,by simp [List.getD,hi]⟩
 ·have hnd:ys.Nodup:=by obtain ⟨_,_,_,_,_,_,nd,_⟩:=ht; exact nd
  have hex:∃ o,h'.get? s.heap.objs.size=some o:=by obtain ⟨es,ep,t,g,_⟩:=ht; exact ⟨_,g⟩
  refine ⟨.ref s.heap.objs.size,_,I.laid (o:=SetS X.w s.heap.objs.size ys) (fun b o e=>kp b o (Heap.lt_size e) e) (Nat.le_refl _) ⟨ht,hex,fun h1 h2 x k=>x.at k⟩,rfl,q _ ys (I.hok.fresh (Nat.le_refl _)) hnd hm⟩
theorem Paired.at {α β:Type} {F:α->β->Prop}:∀ {xs:List α} {ys:List β} {i:Nat} {x:α},Paired F xs ys->xs[i]?=some x->∃ y,ys[i]?=some y/\F x y
 | _,_,_,_,.nil,e=>by simp at e
 | _,_,0,_,.cons r _,e=>by simp at e; subst e; exact ⟨_,rfl,r⟩
 | _,_,i+1,x,.cons _ t,e=>by
  obtain ⟨y,h1,h2⟩:=Paired.at (i:=i) (x:=x) t (by simpa using e)
  exact ⟨y,by simpa using h1,h2⟩
end
end L2
namespace L2
open PySem PySem.Spec PyProof.Rows
section
variable {X:Cx}
noncomputable def rJoin:V->List V->Hp->VK->Prop:=fun x vs H Q=>∃ (z:Str) (l:Addr) (ys:List Str),x=.str z/\vs=[.ref l]/\H l=some (.lst (ys.map V.str))/\(ys.map (·.length)).sum+ys.length * z.length<=16777216/\Q (.str (Str.join z ys)) H
theorem aE8:MtR X "str.join" rJoin:=by
 intro pins s σ H x vs v us Q I rx rv h
 obtain ⟨z,l,ys,rfl,rfl,hl,hs,q⟩:=h
 obtain ⟨t,rfl⟩:=rx
 obtain ⟨u,rfl,ru⟩:=rv.one
 cases ru
 obtain ⟨_,its,n,r,_,e⟩:=I.lstM hl
 refine join_list ⟨_,e,rfl,n,rfl⟩ (by simpa using aFa r) hs fun t' k=>?_
 have e1:Txt.join z ys=Str.join z ys:=StrLaws.glued_eq_join z ys
 rw [e1]
 exact ⟨.str _,H,I.tok _,⟨_,rfl⟩,q⟩
noncomputable def rSlS:V->Option Int->Option Int->Hp->VK->Prop:=fun x lo hi H Q=>∃ z:Str,x=.str z/\z.length<=sizeLine/\Q (.str (Txt.slice z lo hi)) H
theorem aQ6 {v:Value} {lo:Option Int} (h:IsPart v lo):∃ l:Option (Int×Tok),l.map (·.1)=lo/\v=partValue l:=by
 cases h with
 | none=>exact ⟨none,rfl,rfl⟩
 | int i t=>exact ⟨some (i,t),rfl,rfl⟩
theorem aYv:SlR X rSlS:=by
 intro pins s σ H x v vl vu lo hi sl Q I rx hs pl pu h
 obtain ⟨z,rfl,hz,q⟩:=h
 obtain ⟨t,rfl⟩:=rx
 obtain ⟨l,e1,rfl⟩:=aQ6 pl
 obtain ⟨u,e2,rfl⟩:=aQ6 pu
 subst e1 e2
 refine ⟨"str",_,F.slot_str_getitem.lookup,typeIs_str _ _ _,wpAny_getItem_str_slice (l:=l) (u:=u) (st:=none) ?_ rfl (post_val_or_str ?_)⟩
 ·obtain ⟨o,a,b,c⟩:=hs
  exact ⟨o,a,b,c⟩
 ·exact ⟨Nat.le_trans (Txt.slice_le z _ _) hz,fun t' k=>⟨.str _,H,I.tok _,⟨_,rfl⟩,q⟩⟩
end
end L2
namespace L2
section
variable {α:Type} [DecidableEq α]
noncomputable abbrev bCg (α:Type):=α×α×Rat
noncomputable abbrev EntD (α:Type):=Rat×Option (Nat×α)
noncomputable abbrev AL (α β:Type):=List (α×β)
noncomputable def aget {β:Type} (l:AL α β) (k:α):Option β:=(l.find? fun kv=>decide (kv.1=k)).map (·.2)
noncomputable def aput {β:Type} (l:AL α β) (k:α) (v:β):AL α β:=if (l.any fun kv=>decide (kv.1=k)) then l.map (fun kv=>if kv.1=k then (kv.1,v) else kv) else l++[(k,v)]
variable (net:List (bCg α)) (push:α -> Option Rat) (tk:Nat -> Option Rat)
variable {net push tk}
end
end L2
namespace L2
section
variable {α:Type} [DecidableEq α] {net:List (bCg α)} {push:α -> Option Rat} {tk:Nat -> Option Rat} {F:AL α (EntD α)}
end
end L2
namespace L2
section
variable {κ:Type} [DecidableEq κ]
noncomputable def lstep (m:AL κ Rat) (x:κ×Rat):AL κ Rat:=match aget m x.1 with
 | none=>aput m x.1 x.2
 | some r=>if x.2 < r then aput m x.1 x.2 else m
noncomputable def lst (l:List (κ×Rat)):AL κ Rat:=l.foldl lstep []
end
end L2
namespace L2
end L2
namespace L2
open PySem PySem.Spec PyProof.Rows
section
variable {X:Cx} {a b:Expr} {ta tb td ty tv:TE} {pos:Pos} {aDj:List Expr} {σ:St} {H H':Hp} {Q:VK} {D:aEx} {K:PySem.W.Frag} {w:World} {v x:V}
theorem aU0 (k:∀ p,H p=none->Q (.ref p) (upd H p (.dK []))):aUp σ H Q:=k
noncomputable def dG (x y:V) (H:Hp) (Q:VK):Prop:=∃ a v,x=.ref a/\aPw H a y (some v)/\Q v H
theorem aZ5 (k:td σ H fun x H1=>ty σ H1 fun y H2=>dG x y H2 Q):aYq td ty σ H Q:=k
theorem aDl {p:Addr} {kvs:List (Key×V)} {s:Str} (h:Rd H p (.dK kvs)) (e:aDc kvs (Sum.inr s)=some v) (k:Q v H):dG (.ref p) (.str s) H Q:=⟨p,v,rfl,.inl ⟨kvs,Sum.inr s,h,rfl,e.symm⟩,k⟩
noncomputable def dI (y x:V) (H:Hp) (Q:VK):Prop:=∃ a o,x=.ref a/\aPw H a y o/\Q (.bl o.isSome) H
noncomputable def dN (y x:V) (H:Hp) (Q:VK):Prop:=∃ a o,x=.ref a/\aPw H a y o/\Q (.bl (!o.isSome)) H
theorem r_din (k:ty σ H fun y H1=>td σ H1 fun x H2=>dI y x H2 Q):tDIn ty td σ H Q:=k
theorem aZ4 (k:ty σ H fun y H1=>td σ H1 fun x H2=>dN y x H2 Q):aQc ty td σ H Q:=k
theorem aZ6 {p:Addr} {kvs:List (Key×V)} {s:Str} (h:Rd H p (.dK kvs)) (k:Q (.bl (aDc kvs (Sum.inr s)).isSome) H):dI (.str s) (.ref p) H Q:=⟨p,_,rfl,.inl ⟨kvs,Sum.inr s,h,rfl,rfl⟩,k⟩
theorem r_dNs {p:Addr} {kvs:List (Key×V)} {s:Str} (h:Rd H p (.dK kvs)) (k:Q (.bl (!(aDc kvs (Sum.inr s)).isSome)) H):dN (.str s) (.ref p) H Q:=⟨p,_,rfl,.inl ⟨kvs,Sum.inr s,h,rfl,rfl⟩,k⟩
noncomputable def dP (D:aEx) (σ:St) (v x y:V) (H:Hp):Prop:=∃ a H4,x=.ref a/\aX4 H a y v H4/\D.nx σ H4
theorem aZ3 (k:tv σ H fun v H1=>td σ H1 fun x H2=>ty σ H2 fun y H3=>dP D σ v x y H3):aYz td ty tv D σ H:=k
theorem r_dPk {p:Addr} {kvs:List (Key×V)} {c:Key} (h:H p=some (.dK kvs)) (hl:kvs.length<=1000) (k:D.nx σ (upd H p (.dK (aEu kvs c v)))):dP D σ v (.ref p) (kV c) H:=⟨p,_,rfl,aX4.k h (aC4 hl),k⟩
theorem aMx {p:Addr} {kvs:List (Key×V)} {s:Str} (h:H p=some (.dK kvs)) (hl:kvs.length<=1000) (k:D.nx σ (upd H p (.dK (aEu kvs (Sum.inr s) v)))):dP D σ v (.ref p) (.str s) H:=r_dPk (c:=Sum.inr s) h hl k
noncomputable def dG1 (ty:TE) (σ:St) (Q:VK) (x:V) (H1:Hp):Prop:=∃ a,x=.ref a/\IsD H1 a/\ty σ H1 fun y H2=>∃ o,aPw H2 a y o/\Q (o.getD .non) H2
theorem aWe (k:td σ H (dG1 ty σ Q)):aUq td ty σ H Q:=k
theorem IsD.k {p:Addr} {kvs:List (Key×V)} (h:Rd H p (.dK kvs)):IsD H p:=.inl ⟨kvs,h⟩
theorem aWa {p:Addr} {x y:V} {t:TGs} {R:St->Hp->Prop} (h:H p=some (.tup [x,y])) (k:t [x,y] σ H R):gTup K 2 t (.ref p) σ H R:=⟨p,_,rfl,SqT.of h,rfl,k⟩
theorem aZ0 {R:St->Hp->Prop} (k:R σ H):gNil [] σ H R:=⟨rfl,k⟩
theorem aWb {t:TG} {u:TGs} {r:List V} {R:St->Hp->Prop} (k:t v σ H fun σ' H'=>u r σ' H' R):aUb t u (v::r) σ H R:=⟨v,r,rfl,k⟩
end
noncomputable def TK (H H':Hp):Prop:=∀ p xs,H p=some (.tup xs)->H' p=some (.tup xs)
theorem TK.trans {H H1 H2:Hp} (a:TK H H1) (b:TK H1 H2):TK H H2:=fun p xs h=>b p xs (a p xs h)
theorem aAm.tk {H H':Hp} (s:aAm H H'):TK H H':=fun p xs h=>s _ _ h
theorem TK.new {H:Hp} {q:Addr} {o:HO} (h:H q=none):TK H (upd H q o):=(aAm.new h).tk
theorem TK.lst {H:Hp} {q:Addr} {o:HO} {ys:List V} (h:H q=some (.lst ys)):TK H (upd H q o):=fun p xs e=>by rw [aBg (aW7 e h (by intro z; cases z))]; exact e
theorem TK.dic {H:Hp} {q:Addr} {o:HO} {ys:List (Key×V)} (h:H q=some (.dK ys)):TK H (upd H q o):=fun p xs e=>by rw [aBg (aW7 e h (by intro z; cases z))]; exact e
noncomputable def FrQ (H:Hp) (v:V) (q:Rat):Prop:=∃ p,v=.ref p/\H p=some (.tup [.int q.num,.int q.den])
theorem FrQ.tk {H H':Hp} {v:V} {q:Rat} (h:FrQ H v q) (t:TK H H'):FrQ H' v q:=let ⟨p,e,h⟩:=h; ⟨p,e,t _ _ h⟩
section
variable {α β:Type} {F G:α -> β -> Prop}
theorem Pd.imp:∀ {l:List α} {m:List β},Paired F l m->(∀ a b,F a b->G a b)->Paired G l m
 | _,_,.nil,_=>.nil
 | _,_,.cons r t,f=>.cons (f _ _ r) (Pd.imp t f)
theorem Pd.snoc:∀ {l:List α} {m:List β} {a:α} {b:β},Paired F l m->F a b->Paired F (l++[a]) (m++[b])
 | _,_,_,_,.nil,r=>.cons r .nil
 | _,_,_,_,.cons q t,r=>.cons q (Pd.snoc t r)
end
section
variable {β:Type} {R:Hp -> V -> β -> Prop} {H H':Hp} {l d:Addr} {ds:List β} {m:List (Key×β)} {kvs:List (Key×V)}
end
theorem i_sN {β:Type} {A B:Prop} (k:B):if (none:Option β).isSome=true then A else B:=k
theorem i_sS {β:Type} {b:β} {A B:Prop} (k:A):if (some b).isSome=true then A else B:=k
theorem r_nxD {D:aEx} {σ:St} {H:Hp} (k:D.nx σ H):D.nx σ H:=k
theorem r_rtD {D:aEx} {v:V} {H:Hp} (k:D.rt v H):D.rt v H:=k
theorem aGu.u1 {k:Nat} {A:Around} (r:aGu k A):A.units+1 < cLine:=by have:=r.units; omega
section
variable {X:Cx} {σ:St} {H H':Hp} {Q:VK} {K:PySem.W.Frag} {v x y:V} {w:World}
noncomputable def rIsN:R2:=fun x y H Q=>y=.non/\Q (.bl (decide (x=.non))) H
noncomputable def aWi:R2:=fun x y H Q=>y=.non/\Q (.bl (!decide (x=.non))) H
theorem aHw:OpR X (compareOp .Is) rIsN:=bA8
theorem aCt:OpR X (compareOp .IsNot) aWi:=aWt
theorem aZu {p:Addr} (k:Q (.bl false) H):rIsN (.ref p) .non H Q:=⟨rfl,k⟩
theorem aZv (k:Q (.bl true) H):rIsN .non .non H Q:=⟨rfl,k⟩
theorem aZe {p:Addr} (k:Q (.bl true) H):aWi (.ref p) .non H Q:=⟨rfl,k⟩
theorem aZf (k:Q (.bl false) H):aWi .non .non H Q:=⟨rfl,k⟩
noncomputable def bmK (K:PySem.W.Frag) (T:String) (r:V->List V->Hp->VK->Prop) (t:TA) (σ:St) (Q:VK):VK:=fun x H1=>tyV K T x H1/\t σ H1 fun xs H2=>r x xs H2 Q
theorem r_bm {T:String} {r:V->List V->Hp->VK->Prop} {to:TE} {t:TA} (k:to σ H (bmK K T r t σ Q)):tBM K T r to t σ H Q:=k
theorem r_bmL {r:V->List V->Hp->VK->Prop} {t:TA} {l:Addr} {xs:List V} (h:H l=some (.lst xs)) (k:t σ H fun vs H2=>r (.ref l) vs H2 Q):bmK K "list" r t σ Q (.ref l) H:=⟨.inl ⟨rfl,xs,SqL.of h⟩,k⟩
theorem r_bmS {r:V->List V->Hp->VK->Prop} {t:TA} {s:Str} (k:t σ H fun vs H2=>r (.str s) vs H2 Q):bmK K "str" r t σ Q (.str s) H:=⟨rfl,k⟩
theorem aJ3 {l:Addr} {xs:List V} (h:H l=some (.lst xs)) (hl:xs.length<=1000) (k:Q .non (upd H l (.lst (xs++[y])))):aMz (.ref l) [y] H Q:=⟨l,xs,y,rfl,rfl,h,aC4 hl,k⟩
end
end L2
namespace L2
open PySem PySem.Spec PyProof.Rows
theorem aLr {α:Type} [DecidableEq α]:∀ {l m:List α},l.Nodup->(∀ x∈l,x∈m)->l.length<=m.length
 | [],_,_,_=>Nat.zero_le _
 | a::l,m,nd,h=>by
  rw [List.nodup_cons] at nd
  have ha:=h a (by simp)
  have:=aLr (l:=l) (m:=m.erase a) nd.2 fun x hx=>by
   have hne:x≠a:=fun z=>nd.1 (by rw [← z]; exact hx)
   exact (List.mem_erase_of_ne hne).mpr (h x (by simp [hx]))
  have h2:=List.length_erase_of_mem ha
  have h3:0 < m.length:=List.length_pos_of_mem ha
  rw [List.length_cons]
  omega
theorem aQ2 {kvs:List (Key×V)} {k:Key} {v:V} (h:k∉kvs.map (·.1)):aEu kvs k v=kvs++[(k,v)]:=by
 unfold aEu
 rw [if_neg]
 intro z
 obtain ⟨x,hx,e⟩:=List.any_eq_true.mp z
 exact h (List.mem_map.mpr ⟨x,hx,of_decide_eq_true e⟩)
theorem aLs:∀ {more kvs:List (Key×V)},((kvs++more).map (·.1)).Nodup->aFn kvs more=kvs++more
 | [],kvs,_=>by simp [aFn]
 | kv::r,kvs,nd=>by
  have h1:kv.1∉kvs.map (·.1):=by
   rw [List.map_append,List.nodup_append] at nd
   intro z
   exact nd.2.2 _ z kv.1 (by simp) rfl
  show aFn (aEu kvs kv.1 kv.2) r=_
  rw [aQ2 h1,aLs (by simpa using nd)]
  simp
section
variable {te:TE} {Q:VK} {H:Hp} {caps:St}
end
section
variable {σ:St} {H:Hp} {Q:VK} {K:PySem.W.Frag}
end
theorem aRw {X:Cx} {scope:Scope} {caps:List (Str×Addr)} {N:List Str} {C:Addr} {s0:Shared} {H0:Hp} {ex:List Addr}:IxR (aA1 X scope caps N C s0 H0 ex) (aPc X.K):=aAt
noncomputable abbrev aUk:=Str×Str×Rat
noncomputable def kn (n:List aUk):List (bCg Key):=n.map fun r=>(Sum.inr r.1,Sum.inr r.2.1,r.2.2)
noncomputable def names (n:List aUk):List Str:=n.map (·.1)++n.map (·.2.1)
theorem aKd {t b:Int} (hb:b≠0):(Rat.divInt t b).num=aGk t b/\((Rat.divInt t b).den:Int)=aF8 t b:=aQt hb (aOm hb) (aRm hb) (aLv hb)
theorem FrQ.low {H:Hp} {t b:Int} {p:Addr} (hb:b≠0) (h:H p=some (.tup [.int (aGk t b),.int (aF8 t b)])):FrQ H (.ref p) (Rat.divInt t b):=⟨p,rfl,by rw [h,(aKd hb).1,(aKd hb).2]⟩
theorem aW8 {t b:Int} (ht:0 < t) (hb:0 < b):0 < Rat.divInt t b:=by
 rw [Rat.lt_iff,(aKd (t:=t) (b:=b) (by omega)).1]
 show (0:Int) * _ < aGk t b * 1
 rw [Int.zero_mul,Int.mul_one]
 have e:=aLv (t:=t) (b:=b) (by omega)
 have hp:=aOm (t:=t) (b:=b) (by omega)
 have:0 < aGk t b * b:=by rw [e]; exact Int.mul_pos ht hp
 exact Int.pos_of_mul_pos_left this hb
noncomputable abbrev abc:Str:=Str.ofString "abcdefghijklmnopqrstuvwxyz"
theorem aXy:abc.length=26:=by decide +kernel
theorem aVn:∀ j:Nat,j < 26->atI abc.cps.toList (j:Int)=some (97+j):=by decide +kernel
section
variable {σ:St} {H:Hp} {Q:VK} {K:PySem.W.Frag}
theorem aTg {z:Str} {i:Int} {c:Nat} (hz:z.length<=100000) (e:atI z.cps.toList i=some c) (k:Q (.str ⟨#[c]⟩) H):aPc K (.str z) (.int i) H Q:=.inr (.inr ⟨z,i,c,rfl,rfl,by rw [sizeLine_eq]; omega,e,k⟩)
theorem aEz {a b:Str} (h:a.length+b.length<=100000) (k:Q (.str (a++b)) H):aIp K (.str a) (.str b) H Q:=.inr (.inr (.inr ⟨a,b,rfl,rfl,by rw [sizeLine_eq]; omega,k⟩))
end
theorem aCc (a b:Str):(a++b).length=a.length+b.length:=by
 show (a.cps++b.cps).size=_
 simp [Str.length]
theorem Kp.sm {p:Addr} {H H1 H2:Hp} (k:Kp p H1 H2) (s:aAm H H1) (hp:H p=none):aAm H H2:=fun b o h=>k _ _ (aAg h hp) (s _ _ h)
noncomputable def dFr (q:Rat):Dt:=.tup [.int q.num,.int q.den]
noncomputable abbrev sA:Str:=Str.ofString "a"
noncomputable abbrev sB:Str:=Str.ofString "b"
noncomputable def n0:List aUk:=[(sA,sB,Rat.divInt 1 2)]
end L2
namespace L2
open PySem PySem.Spec PySem.W PySem.Calls PyProof.Rows PySem.Builtin PySem.Builtin.ObjectAttr PySem.Builtin.Getset_descriptor
structure aO3 (K:Frag) (C:Addr):Prop where
 ga:findIn K (.ref C) "__getattribute__"=some (some (.builtin "BaseException.__getattribute__"))
 gt:findIn K (.ref C) "__getattr__"=some none
 ca:findIn K (.ref C) "__class__"=some (some (.builtin "object.__class__"))
 ob:subIn K (.ref C) (.type "object")=some true
 be:subIn K (.ref C) (.type "BaseException")=some true
 ic:(clsIn K C).isSome=true
theorem aO3.obj {K:Frag} {C:Addr} (Z:aO3 K C):∃ c d cd sl,K.lookup C=some ⟨c,d,.cls cd,sl⟩:=by
 have q:=Z.ic
 unfold clsIn at q
 split at q
 ·exact ⟨_,_,_,_,by assumption⟩
 ·cases q
noncomputable def aS0 (a C:Addr) (h:Heap):Prop:=∃ o,h.get? a=some o/\o.cls=.ref C
theorem aS0.ty {a C:Addr} {h:Heap} (M:Model) (p:aS0 a C h):Looks M h (typeOf (.ref a)) (.ref C):=by
 obtain ⟨o,h1,h2⟩:=p
 have q:=(Looks.ld (M:=M) (part:=some headPart) h1).andThen (f:=fun o=>pure o.cls) .now
 rw [h2] at q; exact q
section
variable {prog:Program} {w:World} {A:Around} {E:Value -> Shared -> Prop} {s:Shared} {K:Frag} {x C:Addr}
theorem aMj {R:Result->Shared->Prop} {tp:Value} (Z:aO3 K C) (X:K.In s.heap) (p:aS0 x C s.heap) (h:R (.ok (.ret (.ref C))) s) :
  codeAny (model prog w) A (.call (.builtin "getset_descriptor.__get__") ⟨[.builtin "object.__class__",.ref x,tp],[]⟩) R s:=by
 obtain ⟨h1,gs,dw,tn,so⟩:=s
 have L0:=p.ty (model prog w)
 have L1:=looks_subIn (M:=model prog w) X Z.ob
 refine codeAny_call_builtin (h:=KF.slot_gs.check _ _ _ _ _ _ _ _ KF.type_class (KF.args_gs _ _ _) ?_) KF.slot_gs.plain KF.entry_gs
 unfold Builtin.«getset_descriptor.__get__»; unfold descrGet; rw [dga_obj]; refine wpAny_bind (wpAny_pure ?_)
 unfold descrGetter descrCheckInstance; unfold descrNameAndClass isInstance; simp only [KF.owner_class]
 repeat lk
 refine ⟨Code.quiet_builtin _ (by decide +kernel),?_⟩; refine codeAny_builtin KF.entry_class ?_; unfold Builtin.«object.__class__»; unfold shownTypeOf
 repeat lk
 exact h
theorem aVr {nameV:Value} {Q:Unit->Shared->Prop} (Z:aO3 K C) (X:K.In s.heap) (p:aS0 x C s.heap) (h:Q () s):wpAny (model prog w) A (checkBuiltinCall "BaseException.__getattribute__" ⟨[.ref x,nameV],[]⟩) Q E s:=by
 obtain ⟨h1,gs,dw,tn,so⟩:=s
 have q1:builtinKind "BaseException.__getattribute__"=some .slot:=by decide +kernel
 have q2:splitId "BaseException.__getattribute__"=some ("BaseException","__getattribute__"):=by decide +kernel
 have L0:=p.ty (model prog w)
 have L1:=looks_subIn (M:=model prog w) X Z.be
 have ha:=F.args_bexc_ga (.ref x) nameV
 simp only [checkBuiltinCall,q1,q2]
 refine wpAny_bind ?_
 ·unfold isInstance
  repeat (first | lk | wp_step)
  exact h
theorem aVq {tk:Tok} {Q:Fin->Shared->Prop} (Z:aO3 K C) (X:K.In s.heap) (p:aS0 x C s.heap) (h:Q (.done (.ret (.ref C))) s) :
  wpAny (model prog w) A (Builtin.«object.__getattribute__» ⟨[.ref x,.str "__class__" tk],[]⟩) Q E s:=by
 obtain ⟨h1,gs,dw,tn,so⟩:=s
 have L0:=p.ty (model prog w)
 have L1:=looks_findIn (M:=model prog w) X Z.ca
 have q5:=F.typeOf_object_class; have q6:=F.slot_gs_get.lookup; have q7:=F.slot_gs_set.lookup
 obtain ⟨o,hx,hc⟩:=id p
 repeat (any_goals (first | assumption | (with_reducible refine wpAny_loadPart_at hx ?_; rw [hc]) | with_reducible refine L1.here ?_ | wp_step))
 refine aMj Z X p ?_
 repeat any_goals (first | assumption | wp_step)
theorem aYd {tk:Tok} {R:Result->Shared->Prop} (Z:aO3 K C) (X:K.In s.heap) (p:aS0 x C s.heap) (h:R (.ok (.ret (.ref C))) s) :
  codeAny (model prog w) A (.call (.builtin "BaseException.__getattribute__") ⟨[.ref x,.str "__class__" tk],[]⟩) R s :=
 codeAny_call_builtin F.attr_ValueError.ga.plain F.entry_bexc_ga (aVr Z X p (aVq Z X p h))
theorem x_by {tk:Tok} {Q:Value->Shared->Prop} (Z:aO3 K C) (X:K.In s.heap) (p:aS0 x C s.heap) (h:Q (.ref C) s) :
  wpAny (model prog w) A (getAttrBy (.ref x) (.str "__class__" tk) false) Q E s:=by
 obtain ⟨h1,gs,dw,tn,so⟩:=s
 have L0:=p.ty (model prog w)
 have L1:=looks_findIn (M:=model prog w) X Z.ga
 have L2:=looks_findIn (M:=model prog w) X Z.gt
 have f3:=F.attr_ValueError.ga.bind (.ref x)
 have n2:(Value.builtin "BaseException.__getattribute__"==Value.builtin "object.__getattribute__")=false:=by decide +kernel
 have n1:(onTheHeap (Value.ref C)&&Value.builtin "BaseException.__getattribute__"==Value.builtin "object.__getattribute__")=false:=by rw [n2]; rfl
 have n0:(false&&onTheHeap (Value.builtin "BaseException.__getattribute__"))=false:=rfl
 obtain ⟨o,hx,hc⟩:=id p
 repeat (any_goals (first | assumption | (with_reducible refine wpAny_loadPart_at hx ?_; rw [hc]) | with_reducible refine L1.here ?_ | with_reducible refine L2.here ?_ | wp_step))
 refine aYd Z X p ?_
 repeat any_goals (first | assumption | wp_step)
theorem x_cls {Q:Option Value->Shared->Prop} (Z:aO3 K C) (X:K.In s.heap) (p:aS0 x C s.heap) (h:Q (some (.ref C)) { s with toks:=s.toks+1 }):wpAny (model prog w) A (getAttr? (.ref x) "__class__") Q E s:=by
 obtain ⟨h1,gs,dw,tn,so⟩:=s
 unfold getAttr? getAttrBy?
 exact wpAny_bind (wpAny_mkText (wpAny_bind (wpAny_attempt (x_by (s:=⟨h1,gs,dw,tn+1,so⟩) Z X p (wpAny_pure h)))))
end
theorem aOo {K:Frag} {a C:Addr} (Z:aO3 K C):KitX K (.ref a) (.ref C) (aS0 a C) where
 ty:=fun M h _ p=>p.ty M
 it:=fun M h X _=>by
  obtain ⟨c,d,cd,sl,ho⟩:=Z.obj
  intro A' Q' E' s' k q
  unfold isType loadHead
  exact wpAny_bind (wpAny_loadPart (k C _ (X C _ ho)) (wpAny_pure q))
 ne:=fun h b _ _ _ _ X hb=>by
  obtain ⟨c,d,cd,sl,ho⟩:=Z.obj
  refine Bool.eq_false_iff.mpr ?_
  intro q
  obtain rfl:C=b:=Value.ref.inj (beq_iff_eq.mp q)
  rw [X C _ ho] at hb; cases hb
 ca:=fun X p k=>x_cls Z X p k
end L2
namespace L2
open PySem PySem.Spec PyProof.Rows
structure Kpt (fs xs:List Addr) (h h':Heap):Prop where
 keep:∀ b o,h.get? b=some o->b∉fs->b∉xs->h'.get? b=some o
 slot:∀ b o,h.get? b=some o->b∈fs->b∉xs->∃ sl,h'.get? b=some { o with slots:=sl }
section
variable {fs fs' xs xs':List Addr} {h h0 h1 h2 h':Heap} {H H':Hp} {P:Program} {w:World}
theorem Kpt.there (k:Kpt fs xs h h') {b:Addr} {o:Obj} (e:h.get? b=some o) (n:b∉xs):∃ sl,h'.get? b=some { o with slots:=sl }:=by
 by_cases hb:b∈fs
 ·exact k.slot b o e hb n
 ·exact ⟨o.slots,k.keep b o e hb n⟩
theorem Kpt.mv {L:Addr} (k:Kpt (L::fs) xs h h'):Kpt fs (L::xs) h h' where
 keep:=fun b o e n m=>k.keep b o e (fun z=>(List.mem_cons.mp z).elim (fun q=>m (q ▸ List.mem_cons_self)) n) fun z=>m (List.mem_cons_of_mem _ z)
 slot:=fun b o e n m=>k.slot b o e (List.mem_cons_of_mem _ n) fun z=>m (List.mem_cons_of_mem _ z)
theorem aCd.at {a:Addr} {o:HO} (x:aCd P w H h a o):∃ ob,h.get? a=some ob:=by
 cases o with
 | lst xs=>obtain ⟨_,_,_,_,e⟩:=x; exact ⟨_,e⟩
 | tup xs=>obtain ⟨_,_,_,⟨o,e,_⟩⟩:=x; exact ⟨_,e⟩
 | dK kvs=>obtain ⟨_,_,_,_,o,_,_,e,_⟩:=x; exact ⟨_,e⟩
 | dT kvs=>obtain ⟨_,_,_,_,o,_,_,e,_⟩:=x; exact ⟨_,e⟩
 | set S n=>obtain ⟨o,_,_,_,e,_⟩:=x; exact ⟨_,e⟩
 | ins C dx fs=>obtain ⟨_,_,_,e,_⟩:=x; exact ⟨_,e⟩
 | own y=>obtain ⟨_,e⟩:=x; exact ⟨_,e⟩
 | xd fs=>obtain ⟨_,⟨_,_,_,e,_⟩,_⟩:=x; exact ⟨_,e⟩
 | rng lo hi=>obtain ⟨_,_,_,e⟩:=x; exact ⟨_,e⟩
 | frz ob u=>obtain ⟨e,_⟩:=x; exact ⟨_,e⟩
 | tbl ps=>exact ⟨_,(show h.get? a=some _ from x)⟩
 | met f y=>exact ⟨_,(show h.get? a=some _ from x)⟩
 | ext φ=>obtain ⟨_,⟨_,e⟩,_⟩:=x; exact ⟨_,e⟩
theorem HOk.none_of (x:HOk P w H h) {a:Addr} (e:h.get? a=none):H a=none:=by
 cases q:H a with
 | none=>rfl
 | some o =>
  obtain ⟨ob,z⟩:=(x a o q).at
  rw [e] at z; cases z
theorem HOk.kpt (ok:HOk P w H h) (k:Kpt fs xs h h') (hf:∀ b∈fs,H b=none) (hx:∀ b∈xs,H b=none):HOk P w H h':=fun a o e=>by
 have key:∀ b u,H b=some u->b∉fs/\b∉xs:=fun b u q=>⟨fun z=>(by rw [hf b z] at q; cases q),fun z=>(by rw [hx b z] at q; cases q)⟩
 refine (ok a o e).stay (fun b u hb q=>?_) (fun _ q=>q) fun _ _ q=>q
 rcases hb with rfl | hb
 ·exact k.keep b u q (key b o e).1 (key b o e).2
 ·exact k.keep b u q (key b _ hb).1 (key b _ hb).2
theorem HOk.track (ok:HOk P w H h) {a:Addr} {o:HO} (hn:H a=none) (new:aCd P w (upd H a o) h a o):HOk P w (upd H a o) h:=fun b u q=>by
 by_cases hb:b=a
 ·subst hb; rw [aAd] at q; cases q; exact new
 ·rw [aBg hb] at q
  exact (ok b u q).stay (fun _ _ _ z=>z) (fun c r=>by rw [aBg (aAg r hn)]; exact r) fun c xs r=>by rw [aBg (aAg r hn)]; exact r
theorem Un.kpt (u:Un fs [] H H' h0 h) (k:Kpt fs xs h h') (hx:∀ b∈xs,h0.get? b=none):Un fs [] H H' h0 h':=by
 have nx:∀ b o,h0.get? b=some o->b∉xs:=fun b o e z=>by rw [hx b z] at e; cases e
 refine ⟨fun b o e n hb he=>k.keep b o (u.keep b o e n hb he) hb (nx b o e),fun b o e n hb he=>?_,u.free,fun b o e he=>?_,u.tups,u.frzs,u.tbls⟩
 ·obtain ⟨sl,q⟩:=u.slot b o e n hb he
  obtain ⟨sl',q'⟩:=k.slot b _ q hb (nx b o e)
  exact ⟨sl',q'⟩
 ·obtain ⟨o',q⟩:=u.there b o e he
  obtain ⟨sl,q'⟩:=k.there q (nx b o e)
  exact ⟨_,q'⟩
theorem Un.track {ex:List Addr} {a:Addr} {o:HO} (u:Un fs ex H H' h h') (hn:H' a=none) (hh:h.get? a=none):Un fs ex H (upd H' a o) h h' where
 keep:=u.keep
 slot:=u.slot
 free:=fun b ob e n hx=>by rw [aBg (fun z=>by rw [z,hh] at e; cases e)]; exact u.free b ob e n hx
 there:=u.there
 tups:=fun b xs q=>by rw [aBg (aAg (u.tups b xs q) hn)]; exact u.tups b xs q
 frzs:=fun b ob xs q=>by rw [aBg (aAg (u.frzs b ob xs q) hn)]; exact u.frzs b ob xs q
 tbls:=fun b ps q=>by
  obtain ⟨m,e⟩:=u.tbls b ps q
  exact ⟨m,by rw [aBg (aAg e hn)]; exact e⟩
theorem Un.was (u:Un fs [] H H' h h') {a:Addr} (e:h'.get? a=none):h.get? a=none:=by
 cases q:h.get? a with
 | none=>rfl
 | some o =>
  obtain ⟨o',z⟩:=u.there a o q (by simp)
  rw [e] at z; cases z
end
noncomputable def aP0 (x T C:Addr) (fl:Value) (h:Heap):Prop:=∃ oe vs oT ts,h.get? x=some oe/\oe.cls=.ref C/\oe.data=.fields vs/\vs[1]?=some (.ref T)/\vs[2]?=some .none/\T≠x/\h.get? T=some oT/\oT.data=.fields ts/\ts[3]?=some fl
noncomputable abbrev Fly (x T C:Addr) (h:Heap):Prop:=aP0 x T C .none h
noncomputable def ExR (x C:Addr) (h:Heap):Prop:=∃ o vs,h.get? x=some o/\o.cls=.ref C/\o.data=.fields vs/\vs[2]?=some .none
theorem ExR.kitR {x C:Addr} {h:Heap} (f:ExR x C h):aS0 x C h:=by
 obtain ⟨oe,_,e,c,_⟩:=f
 exact ⟨oe,e,c⟩
theorem aP0.exR {x T C:Addr} {fl:Value} {h:Heap} (f:aP0 x T C fl h):ExR x C h:=by
 obtain ⟨oe,vs,_,_,e,c,d,_,z,_⟩:=f
 exact ⟨oe,vs,e,c,d,z⟩
theorem Kpt.refl {fs xs:List Addr} {h:Heap}:Kpt fs xs h h:=⟨fun _ _ e _ _=>e,fun _ o e _ _=>⟨o.slots,e⟩⟩
theorem Kpt.upd {fs xs:List Addr} {h h1:Heap} {a:Addr} (k:Kpt fs xs h h1) (f:Obj->Obj) (ha:a∈xs∨h.get? a=none):Kpt fs xs h (h1.update a f):=by
 have na:∀ b o,h.get? b=some o->b∉xs->a≠b:=fun b o e n z=>by
  rcases ha with q | q
  ·exact n (z ▸ q)
  ·rw [z,e] at q; cases q
 exact ⟨fun b o e n m=>(Heap.get?_update_other _ _ (na b o e m)).trans (k.keep b o e n m),fun b o e n m=>(k.slot b o e n m).imp fun sl q=>(Heap.get?_update_other _ _ (na b o e m)).trans q⟩
theorem Kpt.push {fs xs:List Addr} {h h1:Heap} (k:Kpt fs xs h h1) (o:Obj):Kpt fs xs h (h1.push o) :=
 ⟨fun b u e n m=>Heap.get?_push_of_some _ (k.keep b u e n m),fun b u e n m=>(k.slot b u e n m).imp fun sl q=>Heap.get?_push_of_some _ q⟩
section
variable {M:Model} {A:Around} {E:Value -> Shared -> Prop} {s:Shared} {base:Heap} {env:Env} {outer l:List Env} {L x T C:Addr} {Q:Unit -> Shared -> Prop}
noncomputable def aW6 (env:Env) (L x:Addr) (head:Value) (b:Bool):Sem Unit:=frameOf env >>= fun a=>entryPlaceOf L b >>= fun pl=>EntryCells.newEntry head a .none (rawInt L) .none pl >>= fun v=>setField (.ref x) 1 v
theorem aKm {oe:Obj} {vs:Array Value} {head:Value} {b:Bool} (hfr:A.frames=some (env::outer)) (hf:env.frame=some L) (hl:s.heap.FunFrames base (env::outer)) (he:s.heap.get? x=some oe) (hc:oe.cls=.ref C) (hd:oe.data=.fields vs)
  (h1:1 < vs.size) (h2:vs[2]?=some .none) (k:∀ h' T',aP0 x T' C (rawInt L) h'->s.heap.get? T'=none->Kpt (frs (env::outer)) [x] s.heap h'->Q () { s with heap:=h' }):wpAny M A (aW6 env L x head b) Q E s:=by
 have nfr:x∉frs (env::outer):=fun hm=>by
  obtain ⟨_,o,ho,hn⟩:=hl.mem hm
  rw [he] at ho; cases ho
  exact hn vs hd
 refine wpAny_bind (wpAny_frameOf_fun hfr hl hf fun g hg=>wpAny_bind (wpAny_entryPlaceOf fun pl hpl=>wpAny_bind ?_))
 unfold EntryCells.newEntry newFields
 refine wpAny_newObj_type ?_ (hpl.sizeOk5 _ _ _ _ _)
 generalize hts:([head,Value.ref L,Value.none,rawInt L,Value.none]++(if pl.isEmpty then List.replicate 6 Value.none else pl)).toArray=ts
 have e1:g.get? x=some oe:=(hg.2.1 x nfr).trans he
 have nT:g.objs.size≠x:=Nat.ne_of_gt (Heap.lt_size e1)
 have e2:=Heap.get?_push_of_some (h:=g) { cls:=.type "traceback",dict:=none,data:=.fields ts } e1
 refine wpAny_setField e2 hd h1 (k _ g.objs.size ?_ ?_ ?_)
 ·have d3:=Obj.data_mapFields hd (·.setIfInBounds 1 (Value.ref g.objs.size))
  refine ⟨_,_,_,ts,Heap.get?_update_self _ e2 (Obj.isFreed_of_fields d3),(Obj.cls_mapFields _ _).trans hc,d3,by simp [h1],?_,nT,(Heap.get?_update_other _ _ (Ne.symm nT)).trans (Heap.get?_push_size g rfl),rfl,by rw [← hts]; simp⟩
  rw [Array.getElem?_setIfInBounds_ne (by decide)]; exact h2
 ·exact Heap.get?_none_of_le (Nat.le_of_eq hg.1.symm)
 ·refine Kpt.upd (Kpt.push ⟨fun b o e n m=>(hg.2.1 b n).trans e,fun b o e n m=>hg.2.2 b o e⟩ _) _ (.inl (by simp))
theorem aH9 {fl:Value} {h0:Heap} {fs:List Addr} (f:aP0 x T C fl s.heap) (k0:Kpt fs [x,T] h0 s.heap∨(Kpt fs [x] h0 s.heap/\h0.get? T=none))
  (k:∀ h',Fly x T C h'->(Kpt fs [x,T] h0 h')->(h0.get? T=none->Kpt fs [x] h0 s.heap->Kpt fs [x] h0 h')->Q () { s with heap:=h' }):wpAny M A (setFlight (.ref x) none) Q E s:=by
 obtain ⟨oe,vs,oT,ts,e1,e2,e3,e4,e5,e6,e7,e8,e9⟩:=f
 have sz:3 < ts.size:=(Array.getElem?_eq_some_iff.mp e9).1
 unfold setFlight
 refine wpAny_bind (wpAny_field e1 e3 e4 ?_)
 rw [if_pos (by simp)]
 have d3:=Obj.data_mapFields e8 (·.setIfInBounds 3 ((none:Option Addr).elim Value.none fun f=>rawInt f))
 refine wpAny_setField e7 e8 sz (k _ ⟨oe,vs,_,_,(Heap.get?_update_other _ _ e6).trans e1,e2,e3,e4,e5,e6,Heap.get?_update_self _ e7 (Obj.isFreed_of_fields d3),d3,by simp [sz]⟩ ?_ fun q z=>z.upd _ (.inr q))
 rcases k0 with z | ⟨z,q⟩
 ·exact z.upd _ (.inl (by simp))
 ·exact Kpt.upd ⟨fun b o e n m=>z.keep b o e n fun y=>m (by simp at y; simp [y]),fun b o e n m=>z.slot b o e n fun y=>m (by simp at y; simp [y])⟩ _ (.inl (by simp))
theorem aUe {oe:Obj} {vs:Array Value} (hfr:A.frames=some (env::outer)) (hf:env.frame=some L) (hl:s.heap.FunFrames base (env::outer)) (he:s.heap.get? x=some oe) (hc:oe.cls=.ref C) (hd:oe.data=.fields vs)
  (h1:vs[1]?=some .none) (h2:vs[2]?=some .none) (k:∀ h' T',aP0 x T' C (rawInt L) h'->s.heap.get? T'=none->Kpt (frs (env::outer)) [x] s.heap h'->Q () { s with heap:=h' }):wpAny M A (noteFrame (.ref x) env) Q E s:=by
 unfold noteFrame
 simp only [hf]
 refine wpAny_bind (wpAny_field he hd h1 ?_)
 rw [if_neg (by decide)]
 exact aKm hfr hf hl he hc hd (Array.getElem?_eq_some_iff.mp h1).1 h2 k
theorem aOt (hfr:A.frames=some (env::outer)) (hf:env.frame=some L) (hl:s.heap.FunFrames base (env::outer)) (f:Fly x T C s.heap)
  (k:∀ h' T',aP0 x T' C (rawInt L) h'->s.heap.get? T'=none->Kpt (frs (env::outer)) [x,T] s.heap h'->Q () { s with heap:=h' }):wpAny M A (noteFrame (.ref x) env) Q E s:=by
 obtain ⟨oe,vs,oT,ts,e1,e2,e3,e4,e5,e6,e7,e8,e9⟩:=f
 unfold noteFrame
 simp only [hf]
 refine wpAny_bind (wpAny_field e1 e3 e4 ?_)
 rw [if_pos (by simp)]
 refine wpAny_bind (wpAny_field e7 e8 e9 ?_)
 rw [if_neg (by simp [rawInt])]
 refine wpAny_bind (wpAny_setField e7 e8 (Array.getElem?_eq_some_iff.mp e9).1 ?_)
 have oth:∀ b,b≠T->(s.heap.update T (Obj.mapFields (·.setIfInBounds 3 Value.none))).get? b=s.heap.get? b:=fun b hb=>Heap.get?_update_other _ _ (Ne.symm hb)
 have hl':(s.heap.update T (Obj.mapFields (·.setIfInBounds 3 Value.none))).FunFrames base (env::outer):=hl.of_keeps fun b o hb hn=>⟨o,(oth b fun z=>by rw [z,e7] at hb; cases hb; exact hn ts e8).trans hb,rfl⟩
 refine aKm (s:={ s with heap:=s.heap.update T (Obj.mapFields (·.setIfInBounds 3 Value.none)) }) hfr hf hl' ((oth x (Ne.symm e6)).trans e1) e2 e3 (Array.getElem?_eq_some_iff.mp e4).1 e5 fun h' T' f' n' k'=>k h' T' f' ?_ ?_
 ·cases z:s.heap.get? T' with
  | none=>rfl
  | some o =>
   exfalso
   by_cases q:T'=T
   ·have d3:=Obj.data_mapFields e8 (·.setIfInBounds 3 Value.none)
    have:=Heap.get?_update_self (Obj.mapFields (·.setIfInBounds 3 Value.none)) e7 (Obj.isFreed_of_fields d3)
    rw [← q,show Heap.get? (s.heap.update T' _) T'=none from q ▸ n'] at this; cases this
   ·have:=(oth T' q).trans z
    rw [show Heap.get? (s.heap.update T _) T'=none from n'] at this; cases this
 ·refine ⟨fun b o e n m=>k'.keep b o ((oth b fun z=>m (by simp [z])).trans e) n fun y=>m (by simp at y; simp [y]),fun b o e n m=>k'.slot b o ((oth b fun z=>m (by simp [z])).trans e) n fun y=>m (by simp at y; simp [y])⟩
theorem aR5 (hfr:A.frames=some (env::outer)) (hf:env.frame=some L) (hl:s.heap.FunFrames base (env::outer)) (f:Fly x T C s.heap)
  (k:∀ h' T',Fly x T' C h'->(T'=T∨s.heap.get? T'=none)->Kpt (frs (env::outer)) [x,T] s.heap h'->Q () { s with heap:=h' }):wpAny M A (leaving env (.ref x)) Q E s:=by
 unfold leaving
 refine wpAny_bind (aOt hfr hf hl f fun h1 T1 f1 n1 k1=>?_)
 refine aH9 (s:={ s with heap:=h1 }) (h0:=h1) (fs:=[]) f1 (.inl .refl) fun h2 f2 k2 _=>k h2 T1 f2 (.inr n1) ?_
 have nT:∀ b o,s.heap.get? b=some o->b∉[x,T]->b∉[x,T1]:=fun b o e m z=>by
  rcases List.mem_cons.mp z with z | z
  ·exact m (by simp [z])
  ·rw [List.mem_singleton.mp z,n1] at e; cases e
 exact ⟨fun b o e n m=>k2.keep b o (k1.keep b o e n m) (by simp) (nT b o e m),fun b o e n m=>(k1.slot b o e n m).imp fun sl q=>k2.keep b _ q (by simp) (nT b o e m)⟩
theorem aUd (hfr:A.frames=some (env::outer)) (hf:env.frame=some L) (hl:s.heap.FunFrames base (env::outer)) (f:Fly x T C s.heap)
  (k:∀ h' T',Fly x T' C h'->(T'=T∨s.heap.get? T'=none)->Kpt (frs (env::outer)) [x,T] s.heap h'->Q () { s with heap:=h' }) :
  wpAny M A (noteFrame (.ref x) env) (fun _ s₂=>wpAny M A (setFlight (.ref x) none) Q E s₂) E s:=by
 refine aOt hfr hf hl f fun h1 T1 f1 n1 k1=>?_
 refine aH9 (s:={ s with heap:=h1 }) (h0:=h1) (fs:=[]) f1 (.inl .refl) fun h2 f2 k2 _=>k h2 T1 f2 (.inr n1) ?_
 have nT:∀ b o,s.heap.get? b=some o->b∉[x,T]->b∉[x,T1]:=fun b o e m z=>by
  rcases List.mem_cons.mp z with z | z
  ·exact m (by simp [z])
  ·rw [List.mem_singleton.mp z,n1] at e; cases e
 exact ⟨fun b o e n m=>k2.keep b o (k1.keep b o e n m) (by simp) (nT b o e m),fun b o e n m=>(k1.slot b o e n m).imp fun sl q=>k2.keep b _ q (by simp) (nT b o e m)⟩
theorem aR7 (f:Fly x T C s.heap) (k:∀ h',Fly x T C h'->Kpt (frs l) [x,T] s.heap h'->Q () { s with heap:=h' }):wpAny M A (setFlight (.ref x) none) Q E s :=
 aH9 f (.inl (Kpt.refl (fs:=frs l))) fun h' f' k' _=>k h' f' k'
theorem aR6 {oe:Obj} {vs:Array Value} (hfr:A.frames=some (env::outer)) (hf:env.frame=some L) (hl:s.heap.FunFrames base (env::outer)) (he:s.heap.get? x=some oe) (hc:oe.cls=.ref C) (hd:oe.data=.fields vs)
  (h1:vs[1]?=some .none) (h2:vs[2]?=some .none)
  (k:∀ h' T',Fly x T' C h'->s.heap.get? T'=none->Kpt (frs (env::outer)) [x] s.heap h'->Q () { s with heap:=h' }):wpAny M A (leaving env (.ref x)) Q E s:=by
 unfold leaving
 refine wpAny_bind (aUe hfr hf hl he hc hd h1 h2 fun g T1 f1 n1 k1=>?_)
 exact aH9 (s:={ s with heap:=g }) f1 (.inr ⟨k1,n1⟩) fun h2 f2 _ k2=>k h2 T1 f2 n1 (k2 n1 k1)
end
end L2
namespace L2
open PySem PySem.Spec PyProof.Rows
noncomputable def aSb (x C:Addr):HO:=.ext (ExR x C)
theorem aXo {P:Program} {w:World} {H:Hp} {h:Heap} {x C:Addr} (k:ExR x C h):aCd P w H h x (aSb x C) :=
 ⟨k,(let ⟨o,_,e,_⟩:=k; ⟨o,e⟩),fun _ _ ⟨o,vs,e,c⟩ kp=>⟨o,vs,kp o e,c⟩⟩
noncomputable def CXe (P:Program) (w:World):CXT:=fun outer H s E e s'=>∃ x T C H',e=Value.ref x/\s'.os=s.os/\AllBare s'.gens/\Un (frs outer) [] H H' s.heap s'.heap/\HOk P w H' s'.heap /\
 s.heap.get? x=none/\s.heap.get? T=none/\H' x=none/\H' T=none/\Fly x T C s'.heap/\E (.ref C) none H'
section
variable {P:Program} {w:World} {K:PySem.W.Frag} {mg:Str -> Option Value} {base:Heap} {N:List Str} {qual:Str} {scope:Scope} {f:Addr} {cd:Value} {A:Around} {outer:List Env} {s:Shared} {H:Hp} {E:XK}
theorem aNq {pins:List (Addr×Obj)} {σ:St} {H1:Hp} {s1:Shared} {h':Heap} {x C:Addr} {args:List Value} (I:Inv (aPy (CXe P w) P w K mg base N qual scope f cd A outer s H E) pins σ H1 s1)
  (m:Heap.MadeExcOf s1.heap h' x (.ref C) args) (q:E (.ref C) none H1):(aPy (CXe P w) P w K mg base N qual scope f cd A outer s H E).xe (.ref x) { s1 with heap:=h' }:=by
 obtain ⟨t,he,htn,ht⟩:=m.there
 have fr:=I.stack
 refine aR6 (s:={ s1 with heap:=h' }) I.ok.frames rfl (fr.of_keeps fun b o z _=>⟨o,m.keeps b o z,rfl⟩) he rfl rfl rfl rfl fun h2 T fl n k=>?_
 have k':Kpt (s.heap.objs.size::frs outer) [x] h' h2:=k
 have u:Un (frs outer) [] H H1 s.heap s1.heap:=I.base
 have hn:∀ b,s1.heap.get? b=none->s.heap.get? b=none:=fun b z=>u.was z
 have hT:s1.heap.get? T=none:=by
  cases z:s1.heap.get? T with
  | none=>rfl
  | some o =>
   have:=m.keeps T o z
   rw [show h'.get? T=none from n] at this; cases this
 refine ⟨x,T,C,H1,rfl,I.os,I.bare,((u.trans (Un.kept m.keeps)).kpt k'.mv fun b hb=>?_),(I.hok.kept m.keeps).kpt k' (fun b hb=>I.stkFree b hb) (fun b hb=>?_),hn x m.new,hn T hT,I.hok.none_of m.new,I.hok.none_of hT,fl,q⟩
 ·rcases List.mem_cons.mp hb with z | z
  ·rw [z]; exact Heap.get?_none_of_le (Nat.le_refl _)
  ·rw [List.mem_singleton.mp z]; exact hn x m.new
 ·rw [List.mem_singleton.mp hb]; exact I.hok.none_of m.new
theorem aDd:aIj (CXe P w) (aPy (CXe P w) P w K mg base N qual scope f cd A outer s H E) E:=by
 intro pins σ H1 s1 e s2 I hx
 obtain ⟨x,T,C,H',rfl,ho,hg,un,hok,nx,nT,hx,hT,fl,q⟩:=hx
 have I2:=I.call' (ch:=[]) ho un hok hg (fun b z=>absurd z (by simp))
 have u1:Un (frs outer) [] H H1 s.heap s1.heap:=I.base
 have u2:Un (frs outer) [] H H' s.heap s2.heap:=I2.base
 refine aR5 I2.ok.frames rfl I2.stack fl fun h2 T2 fl2 n2 k=>?_
 have k':Kpt (s.heap.objs.size::frs outer) [x,T] s2.heap h2:=k
 have hT2:s.heap.get? T2=none/\H' T2=none:=by
  rcases n2 with z | z
  ·rw [z]; exact ⟨u1.was nT,hT⟩
  ·exact ⟨u2.was z,hok.none_of z⟩
 refine ⟨x,T2,C,H',rfl,I2.os,I2.bare,u2.kpt k'.mv fun b hb=>?_,hok.kpt k' (fun b hb=>I2.stkFree b hb) (fun b hb=>?_),u1.was nx,hT2.1,hx,hT2.2,fl2,q⟩
 ·rcases List.mem_cons.mp hb with z | z
  ·rw [z]; exact Heap.get?_none_of_le (Nat.le_refl _)
  ·rcases List.mem_cons.mp z with z | z
   ·rw [z]; exact u1.was nx
   ·rw [List.mem_singleton.mp z]; exact u1.was nT
 ·rcases List.mem_cons.mp hb with z | z
  ·rw [z]; exact hx
  ·rw [List.mem_singleton.mp z]; exact hT
theorem passN {X:Cx}:aIj (CXe P w) X E0:=fun _ _ _ _ _ _ _ h=>by
 obtain ⟨_,_,_,_,_,_,_,_,_,_,_,_,_,_,q⟩:=h
 exact q.elim
end
def aYa:List Value:=[.type "ValueError",.type "Exception",.type "BaseException",.type "object"]
theorem aXn {K:PySem.W.Frag} {h:Heap} {C:Addr} {bmB:List Value} {newId:String} (X:K.In h) (q:PySem.W.excIn K C bmB newId=true) :
  ∃ nm qn N bs bm hdct sn sub ab col dd k0 k1 k2 k3 k5 mN,h.get? C=some (excClassObj nm qn C N bs bm hdct sn sub ab col dd k0 k1 k2 k3 k5 newId)/\h.Ns N mN/\mN "__init__"=none/\OwnTail h bmB bm:=by
 unfold PySem.W.excIn at q
 split at q
 case h_2=>cases q
 rename_i dd cd sl ho
 split at q
 case h_2=>cases q
 rename_i C' bm k0 k1 k2 k3 n k5 hm hs
 simp only [Bool.and_eq_true,beq_iff_eq,Bool.not_eq_true'] at q
 obtain ⟨⟨⟨⟨⟨q1,q2⟩,q3⟩,q4⟩,q5⟩,q6⟩:=q
 subst q1 q2
 obtain ⟨c1,c2,c3,c4,c5,c6,c7,c8,c9,c10,c11⟩:=cd
 dsimp only at hm q3 q5 q6
 subst hm q3
 obtain ⟨l⟩:=sl
 have e:l=[k0,k1,k2,k3,some (.builtin n),k5]:=hs
 subst e
 exact ⟨_,_,_,_,_,_,_,_,_,_,_,_,_,_,_,_,_,X C' _ ho,.of_isNs (PySem.W.isNs_of_in X q5),PySem.W.nsMap_none_of_in X q5 q6,PySem.W.tail_of_in X q4⟩
noncomputable def aP9 (C:Addr) (E:XK) (t:TA):TS:=fun _ σ H=>t σ H fun vs H1=>vs.length<=sizeLine/\E (.ref C) none H1
theorem aV5 {C:Addr} {E:XK} {t:TA} {D:aEx} {σ:St} {H:Hp} (k:t σ H fun vs H1=>vs.length<=sizeLine/\E (.ref C) none H1):aP9 C E t D σ H:=k
noncomputable def aVo (X:Cx) (E:XK):Prop:=∀ (pins:List (Addr×Obj)) (σ:St) (H1:Hp) (s1:Shared) (h':Heap) (x C:Addr) (args:List Value),Inv X pins σ H1 s1->Heap.MadeExcOf s1.heap h' x (.ref C) args->E (.ref C) none H1->X.xe (.ref x) { s1 with heap:=h' }
theorem aTk {X:Cx} {E:XK} {C:Addr} {n:Str} {newId Bn inN:String} {bmN:List Value} {e:Expr} {es:List Expr} {t:TA} {np cpos pos:Pos} (hr:aVo X E) (hc:X.calm=true) (hg:Gl X n) (hm:X.mg n=some (.ref C))
  (hx:PySem.W.excIn X.K C aYa newId=true) (Fn:ExcBaseFacts Bn newId inN bmN) (hBn:aYa.contains (.type Bn)=true) (ha:PA X (e::es) t)
  (hd:(n==("__debug__":Str))=false:=by decide) (he:starEach (e::es) X.env=(false,eval e X.env)::starEach es X.env:=by rfl) (hpl:(backTo cpos (starEach es X.env)).any (·.1)=false:=by rfl) :
  PS X (.Raise (some (.Call (.Name n np) (e::es) [] cpos)) none pos) (aP9 C E t):=by
 intro pins s σ H D I h
 obtain ⟨nm,qn,N,bs,bm,hdct,sn,sub,ab,col,dd,k0,k1,k2,k3,k5,mN,hC,hN,hni,T0⟩:=aXn I.mod.kin hx
 have hpl':(backTo cpos (starEach (e::es) X.env)).any (·.1)=false:=by rw [he]; exact hpl
 refine wpAny_Raise_call_subU (C:=C) (nm:=nm) (q:=qn) (N:=N) (bs:=bs) (hdct:=hdct) (sn:=sn) (sub:=sub) (ab:=ab) (col:=col) (dd:=dd) (k0:=k0) (k1:=k1) (k2:=k2) (k3:=k3) (k5:=k5)
  Fn hBn F.excBase_ValueError (T0.hasType (by decide)) (I.ok.hd hc) hpl' hni (mN:=mN) (aH3 I hg hm ⟨rfl,?_⟩ hd)
 have hs:=ha cpos pins s σ H _ I h
 rw [he] at hs ⊢
 refine Calls.evalArgs_plain (thn hs fun us s1 ⟨vs,H1,I1,r,q1,q2⟩=>?_)
 exact ⟨rfl,by rw [← r.length]; exact q1,I1.bk C _ hC,hN.keeps I1.bk,T0.keeps I1.bk,fun h' x m=>hr pins σ H1 s1 h' x C us I1 m q2⟩
end L2
namespace L2
open PySem PySem.Spec PyProof.Rows
structure aC0 (P:Program) (w:World) (K:PySem.W.Frag) (mg:Str->Option Value) (base:Heap) (k:Nat) (x:Str) (ps:List Str) (dvs:List V) (sp:Sp):Prop where
 ex:∃ (f:Addr) (fd:FuncData),mg x=some (.ref f)/\PySem.W.keepIn K (.ref f)=true/\aKt K fd ps []/\(∃ ds,aB0 dvs ds/\aKt K fd ps ds)/\aNp P w K mg base (CXe P w) k f fd ps sp
section
variable {P:Program} {w:World} {K:PySem.W.Frag} {mg:Str -> Option Value} {base:Heap} {j k:Nat} {x:Str} {st:Stmt} {N ps:List Str} {dvs:List V} {sp:Sp}
theorem aC0.mono (o:aC0 P w K mg base j x ps dvs sp) (h:j<=k):aC0 P w K mg base k x ps dvs sp :=
 let ⟨f,fd,a,b,c,e,d⟩:=o.ex; ⟨f,fd,a,b,c,e,d.mono h⟩
theorem aC0.of (d:Df K mg x st ps) (S:aAv N ps (aAh st)) (len:∀ vs H Q E,sp vs H Q E->vs.length=ps.length)
  (hbody:∀ (f:Addr) (cdv:Value) (A:Around) (outer:List Env) (s:Shared) (H:Hp) (vs:List V) (Q:VK) (E:XK),aGu k (A.deeper (envOfC x (aAh st) s.heap.objs.size f cdv))->sp vs H Q E ->
   ∃ t,PSs (aPy (CXe P w) P w K mg base N x (aAh st) f cdv A outer s H E) (aCn st) t/\t { nx:=fun _ H'=>Q .non H',rt:=Q } (aIn N vs) H):aC0 P w K mg base (k+1) x ps [] sp:=by
 obtain ⟨f,fd,⟨oc,od,dV,kV,doc,pm,an,cdv,ct,osl,rfl,lk,hcd⟩,kp,a,b⟩:=d.ex
 exact ⟨f,_,a,kp,b,⟨[],.nil,b⟩,aXk lk hcd S len fun A outer s H vs Q E hr hsp=>hbody f cdv A outer s H vs Q E hr hsp⟩
end
section
variable {X:Cx} {k:Nat} {x:Str} {ps:List Str} {dvs:List V} {sp:Sp} {p pos:Pos} {e:Expr} {es:List Expr} {t:TA} {E:XK}
theorem aA9 (o:aC0 X.prog X.w X.K X.mg X.base k x ps dvs sp) (hr:aGu k X.A) (hg:Gl X x) (hx:aIj (CXe X.prog X.w) X E) (ha:PA X (e::es) t) (hdb:(x==("__debug__":Str))=false:=by decide)
  (he:starEach (e::es) X.env=(false,eval e X.env)::starEach es X.env:=by rfl) (hpl:(backTo pos (starEach es X.env)).any (·.1)=false:=by rfl) :
  PE X (.Call (.Name x p) (e::es) [] pos) (aS5 sp [] E t):=by
 obtain ⟨f,fd,a,b,c,_,d⟩:=o.ex
 exact aQ4 d hr hg a b c .nil hx ha hdb he hpl
end
theorem PS.nox {X:Cx} {st:Stmt} {t:TS} (h:PS X.nox st t):PS X st t:=fun pins s σ H D I hw =>
 wpAny_mono (h pins s σ H D (I.wish _) hw) (fun _ _ q=>q.unwish) fun _ _ z=>False.elim z
structure aSx (X:Cx) (pins:List (Addr×Obj)) (H:Hp) (a:Addr):Prop where
 h:H a=none
 s:X.s₀.heap.get? a=none
 l:a≠X.env.locals
 c:∀ n c,X.env.cells.lookup n=some c->c≠a
 p:∀ p∈X.pn++pins,p.1≠a
theorem Inv.kpt {X:Cx} {pins:List (Addr×Obj)} {σ:St} {H:Hp} {s:Shared} {xs:List Addr} {h':Heap} (I:Inv X pins σ H s) (k:Kpt (frs X.stack) xs s.heap h') (hx:∀ b∈xs,aSx X pins H b):Inv X pins σ H { s with heap:=h' }:=by
 have neL:∀ b o,X.s₀.heap.get? b=some o->b≠X.env.locals:=fun b o e=>Nat.ne_of_lt (Nat.lt_of_lt_of_le (Heap.lt_size e) I.ok.above)
 have nX:∀ b o,X.s₀.heap.get? b=some o->b∉xs:=fun b o e z=>by rw [(hx b z).s] at e; cases e
 have nS:∀ b,b≠X.env.locals->b∉X.fs->b∉frs X.stack:=fun b h1 h2 z=>(List.mem_cons.mp (I.stkSub b z)).elim h1 h2
 have lX:X.env.locals∉xs:=fun z=>(hx _ z).l rfl
 have cX:∀ n c,X.env.cells.lookup n=some c->c∉xs:=fun n c e z=>(hx _ z).c n c e rfl
 have cellK:∀ x c,X.env.cells.lookup x=some c->∀ v,s.heap.IsCell c v->h'.IsCell c v:=fun x c e v ⟨o,ho,hd⟩=>by
  obtain ⟨sl,q⟩:=k.there ho (cX x c e)
  exact ⟨_,q,hd⟩
 refine ⟨I.ok,I.os,I.bare,⟨fun b o e n hb hx=>?_,fun b o e n hb hx=>?_,I.base.free,fun b o e hx=>?_,I.base.tups,I.base.frzs,I.base.tbls⟩,?_,fun x c e=>?_,I.free,I.freeC,fun p hp=>?_,I.hok.kpt k (fun b hb=>I.stkFree b hb) fun b hb=>(hx b hb).h,I.len⟩
 ·exact k.keep b o (I.base.keep b o e n hb hx) (nS b (neL b o e) hb) (nX b o e)
 ·obtain ⟨sl,q⟩:=I.base.slot b o e n hb hx
  obtain ⟨sl',q'⟩:=k.there q (nX b o e)
  exact ⟨sl',q'⟩
 ·obtain ⟨o',q⟩:=I.base.there b o e hx
  obtain ⟨sl',q'⟩:=k.there q (nX b o e)
  exact ⟨_,q'⟩
 ·obtain ⟨m,⟨o,es,ep,ho,r⟩,hl⟩:=I.loc
  obtain ⟨sl,q⟩:=k.there ho lX
  refine ⟨m,⟨_,es,ep,q,r⟩,fun i x v e1 e2 e3=>?_⟩
  obtain ⟨u,rv,l⟩:=hl i x v e1 e2 e3
  refine ⟨u,rv,?_⟩
  rcases l with l | ⟨kk,c,e,z⟩
  ·exact .inl l
  ·exact .inr ⟨kk,c,e,cellK x c e _ z⟩
 ·obtain ⟨v,z⟩:=I.cell x c e
  exact ⟨v,cellK x c e v z⟩
 ·obtain ⟨e,n,ne,nf,d⟩:=I.pin p hp
  exact ⟨k.keep p.1 p.2 e (nS _ ne nf) (fun z=>(hx _ z).p p hp rfl),n,ne,nf,d⟩
theorem Inv.frsh {X:Cx} {pins:List (Addr×Obj)} {σ:St} {H H':Hp} {s:Shared} {a:Addr} (I:Inv X pins σ H s) (hex:X.ex=[]) (e:s.heap.get? a=none) (h:H' a=none):aSx X pins H' a where
 h:=h
 s:=by
  have u:Un X.fs [] X.H₀ H X.s₀.heap s.heap:=hex ▸ I.base
  exact u.was e
 l:=fun z=>by
  obtain ⟨m,⟨o,es,ep,ho,r⟩,_⟩:=I.loc
  rw [← z,e] at ho; cases ho
 c:=fun n c q z=>by
  obtain ⟨v,o,ho,hd⟩:=I.cell n c q
  rw [z,e] at ho; cases ho
 p:=fun p hp z=>by
  obtain ⟨q,_⟩:=I.pin p hp
  rw [z,e] at q; cases q
noncomputable def aSn (X:Cx) (pins:List (Addr×Obj)) (σ:St) (E:XK) (e:Value) (s':Shared):Prop:=∃ x T C H',e=.ref x/\Inv X pins σ H' s'/\Fly x T C s'.heap/\aSx X pins H' x/\aSx X pins H' T/\E (.ref C) none H'
theorem aSm {X:Cx} {pins:List (Addr×Obj)} {σ:St} {H:Hp} {s s':Shared} {E:XK} {e:Value} (hex:X.ex=[]) (I:Inv X pins σ H s) (h:CXe X.prog X.w X.stack H s E e s'):aSn X pins σ E e s':=by
 obtain ⟨x,T,C,H',rfl,ho,hg,un,hok,nx,nT,hx,hT,fl,q⟩:=h
 exact ⟨x,T,C,H',rfl,I.call' (ch:=[]) ho un hok hg (fun b z=>absurd z (by simp)),fl,I.frsh hex nx hx,I.frsh hex nT hT,q⟩
noncomputable abbrev TEX:=St->Hp->VK->XK->Prop
noncomputable abbrev TX:=aEx->XK->St->Hp->Prop
noncomputable def PEX (X:Cx) (e:Expr) (t:TEX):Prop :=
 ∀ (pins:List (Addr×Obj)) (s:Shared) (σ:St) (H:Hp) (Q:VK) (E:XK),Inv X pins σ H s->t σ H Q E->wpAny (model X.prog X.w) X.A (eval e X.env) (EP X pins σ Q) (aSn X pins σ E) s
noncomputable def PX (X:Cx) (st:Stmt) (t:TX):Prop :=
 ∀ (pins:List (Addr×Obj)) (s:Shared) (σ:St) (H:Hp) (D:aEx) (E:XK),Inv X pins σ H s->t D E σ H->wpAny (model X.prog X.w) X.A (exec st X.env) (SP X pins D) (aSn X pins σ E) s
noncomputable def aQe (sp:Sp) (dvs:List V) (t:TA):TEX:=fun σ H Q E=>t σ H fun vs H1=>sp (vs++dvs) H1 Q E
section
variable {X:Cx} {k:Nat} {f:Addr} {fd:FuncData} {x:Str} {ps:List Str} {dvs:List V} {ds:List Value} {sp:Sp} {p pos:Pos} {e:Expr} {es:List Expr} {t:TA} {E:XK}
theorem aWq (F:aNp X.prog X.w X.K X.mg X.base (CXe X.prog X.w) k f fd ps sp) (hex:X.ex=[]) (hxe:∀ e s,X.xe e s->False) (hr:aGu k X.A) (hg:Gl X x) (hm:X.mg x=some (.ref f)) (hk:PySem.W.keepIn X.K (.ref f)=true) (hb:aKt X.K fd ps ds) (hd:aB0 dvs ds)
  (ha:PA X (e::es) t) (hdb:(x==("__debug__":Str))=false) (he:starEach (e::es) X.env=(false,eval e X.env)::starEach es X.env) (hpl:(backTo pos (starEach es X.env)).any (·.1)=false) :
  PEX X (.Call (.Name x p) (e::es) [] pos) (aQe sp dvs t):=by
 intro pins s σ H Q E I h
 refine wpAny_Call_Name_kw (aH3 I hg hm ?_ hdb)
 refine PySem.W.callWith_K (h₀:=X.base) I.ok.mod.kin hk (wpAny_mono (ha pos pins s σ H _ I h) (fun us s1 ⟨vs,H1,I1,r,q⟩=>⟨I1.kIn,?_⟩) fun e s z=>(hxe e s z).elim) he hpl
 have r2:aB0 (vs++dvs) (us++ds):=r.append hd
 have hl:(us++ds).length=ps.length:=by rw [← r2.length]; exact F.len _ _ _ _ q
 refine wpAny_call (codeAny_mono (F.run X.A X.stack s1 H1 ⟨us,[]⟩ (us++ds) (vs++dvs) Q E hr I1.env0 (hb s1 us I1.kIn hl) r2 q) fun r s' hq=>?_)
 cases r with
 | error e=>exact aSm hex I1 hq
 | ok fl =>
  cases fl with
  | ret u=>exact I1.after hq
  | next=>exact False.elim hq
  | brk=>exact False.elim hq
  | cont=>exact False.elim hq
theorem aTm (o:aC0 X.prog X.w X.K X.mg X.base k x ps dvs sp) (hex:X.ex=[]) (hxe:∀ e s,X.xe e s->False) (hr:aGu k X.A) (hg:Gl X x) (ha:PA X (e::es) t) (hdb:(x==("__debug__":Str))=false:=by decide)
  (he:starEach (e::es) X.env=(false,eval e X.env)::starEach es X.env:=by rfl) (hpl:(backTo pos (starEach es X.env)).any (·.1)=false:=by rfl) :
  PEX X (.Call (.Name x p) (e::es) [] pos) (aQe sp [] t):=by
 obtain ⟨f,fd,a,b,c,_,d⟩:=o.ex
 exact aWq d hex hxe hr hg a b c .nil ha hdb he hpl
end
end L2
namespace L2
open PySem PySem.Spec PyProof.Rows
section
variable {X:Cx} {e:Expr} {te:TEX} {pos:Pos}
noncomputable def aYe (te:TEX):TX:=fun D E σ H=>te σ H (fun _ H1=>D.nx σ H1) E
theorem aWk (he:PEX X e te) (hs:swapsWith e none pos.line X.env=pure false:=by rfl):PX X (.Expr e pos) (aYe te):=by
 intro pins s σ H D E I h
 exact wpAny_Expr_any (thn (he pins s σ H _ E I h) fun v s1 ⟨x,H1,I1,r1,q1⟩=>⟨σ,H1,I1,q1⟩) I.quiet hs
end
noncomputable abbrev Cx.hld (X:Cx) (x:Addr):Cx:={ X with A:=X.A.mark (some (.ref x)),calm:=false,xe:=fun _ _=>False }
section
variable {X:Cx} {pins:List (Addr×Obj)} {σ:St} {H:Hp} {s:Shared} {x:Addr}
theorem Inv.hld (I:Inv X pins σ H s) (x:Addr):Inv (X.hld x) pins σ H s :=
 ⟨⟨I.ok.mod,I.ok.kind,I.ok.glob,I.ok.blt,I.ok.above,I.ok.inj,I.ok.has,I.ok.cab,(fun z=>nomatch z),I.ok.frames,I.ok.stk,I.ok.exf,I.ok.bs,I.ok.bsz,I.ok.noex,I.ok.exfs,I.ok.funs,I.ok.frf⟩,I.os,I.bare,I.base,I.loc,I.cell,I.free,I.freeC,I.pin,I.hok,I.len⟩
theorem Inv.unhld (hd:X.calm=true->X.A.handled=none) (I:Inv (X.hld x) pins σ H s):Inv X pins σ H s :=
 ⟨⟨I.ok.mod,I.ok.kind,I.ok.glob,I.ok.blt,I.ok.above,I.ok.inj,I.ok.has,I.ok.cab,hd,I.ok.frames,I.ok.stk,I.ok.exf,I.ok.bs,I.ok.bsz,I.ok.noex,I.ok.exfs,I.ok.funs,I.ok.frf⟩,I.os,I.bare,I.base,I.loc,I.cell,I.free,I.freeC,I.pin,I.hok,I.len⟩
theorem aKl {M:Model} {A:Around} {E:Value->Shared->Prop} {i:Nat} {n:Str} {pos:Pos} {Q:Unit->Shared->Prop} (I:Inv X pins σ H s) (hN:X.N.Nodup) (hi:X.N[i]?=some n) (hl:X.env.scope.names.lookup n=some .local)
  (h:∀ s',Inv X pins (σ.set i none) H s'->Q () s'):wpAny M A (do bindName X.env n .none; unbindBehindTheSuite X.env n pos) Q E s:=by
 obtain ⟨m,hn,hv⟩:=id I.loc
 have hcls:(X.env.scope.kind==.class || (X.env.scope.kind==.module&&X.env.locals !=X.env.globals))=false:=by rw [I.ok.kind]; rfl
 refine wpAny_nameGoes_keeps hl hn hcls fun h' v hn' hs=>h _ ?_
 have old:∀ b o,X.s₀.heap.get? b=some o->b≠X.env.locals:=fun b o e=>Nat.ne_of_lt (Nat.lt_of_lt_of_le (Heap.lt_size e) I.ok.above)
 refine ⟨I.ok,I.os,I.bare,⟨fun b o e n hb hx=>(hs.2 b (old b o e)).trans (I.base.keep b o e n hb hx),fun b o e n hb hx=>?_,I.base.free,fun b o e hx=>?_,I.base.tups,I.base.frzs,I.base.tbls⟩,⟨_,hn',fun j y v' e1 e2 e3=>?_⟩,fun y c e=>?_,I.free,I.freeC,fun p hp=>?_,?_,by simpa using I.len⟩
 ·obtain ⟨sl,e1⟩:=I.base.slot b o e n hb hx
  exact ⟨sl,(hs.2 b (old b o e)).trans e1⟩
 ·obtain ⟨o',e1⟩:=I.base.there b o e hx
  exact ⟨o',(hs.2 b (old b o e)).trans e1⟩
 ·have hj:j≠i:=fun z=>by
   rw [z] at e2
   by_cases hi':i < σ.length
   ·rw [List.getElem?_set_self hi'] at e2; cases e2
   ·rw [List.getElem?_eq_none (by rw [List.length_set]; omega)] at e2; cases e2
  rw [List.getElem?_set_ne (Ne.symm hj)] at e2
  obtain ⟨u',r',q⟩:=hv j y v' e1 e2 e3
  refine ⟨u',r',?_⟩
  rcases q with ⟨k,e⟩ | ⟨k,c,e,z⟩
  ·refine .inl ⟨k,?_⟩
   have:y≠n:=fun e=>hj (aKc hN e1 (e ▸ hi))
   show (if y=n then v else m y)=some u'
   rw [if_neg this]; exact e
  ·exact .inr ⟨k,c,e,z.sameBut hs (I.cne y c e)⟩
 ·obtain ⟨w',z⟩:=I.cell y c e
  exact ⟨w',z.sameBut hs (I.cne y c e)⟩
 ·obtain ⟨e,n,ne,nf,d⟩:=I.pin p hp
  exact ⟨(hs.2 p.1 ne).trans e,n,ne,nf,d⟩
 ·intro b ob e
  refine (I.hok b ob e).stay (fun c w' hc q=>(hs.2 c ?_).trans q) (fun _ q=>q) fun _ _ q=>q
  rintro rfl
  rcases hc with rfl | hc
  ·rw [I.free] at e; cases e
  ·rw [I.free] at hc; cases hc
theorem Inv.track {a:Addr} {o:HO} (I:Inv X pins σ H s) (fr:aSx X pins H a) (new:aCd X.prog X.w (upd H a o) s.heap a o):Inv X pins σ (upd H a o) s:=by
 refine ⟨I.ok,I.os,I.bare,I.base.track fr.h fr.s,I.loc,I.cell,?_,fun x c e=>?_,fun p hp=>?_,I.hok.track fr.h new,I.len⟩
 ·rw [aBg (Ne.symm fr.l)]; exact I.free
 ·rw [aBg (fr.c x c e)]; exact I.freeC x c e
 ·obtain ⟨e,n,r⟩:=I.pin p hp
  exact ⟨e,by rw [aBg (fr.p p hp)]; exact n,r⟩
end
noncomputable def tTry (K:PySem.W.Frag) (CT:Addr) (i:Nat) (tb:TX) (ts:Addr->TS):TS:=fun D σ H=>tb D (fun cv _ H'=>∃ C,cv=.ref C/\PySem.W.exmOne K (.ref C) (.ref CT)=some true /\
 ∀ x,H' x=none->ts x ⟨fun σ' H2=>D.nx (σ'.set i none) H2,D.rt,fun σ' H2=>D.bk (σ'.set i none) H2,fun σ' H2=>D.ct (σ'.set i none) H2⟩ (σ.set i (some (.ref x))) (upd H' x (aSb x C))) σ H
section
variable {X:Cx}
theorem bAs {CT:Addr} {nc n:Str} {i:Nat} {st s0:Stmt} {suite:List Stmt} {tb:TX} {ts:Addr->TS} {np hp pos:Pos} (hex:X.ex=[]) (hst:X.stack=X.env::X.outer) (hfr:X.env.frame=some X.env.locals)
  (hg:Gl X nc) (hm:X.mg nc=some (.ref CT)) (hN:X.N.Nodup) (hi:X.N[i]?=some n) (hl:X.env.scope.names.lookup n=some .local) (hb:PX X st tb) (hs:∀ x,PSs (X.hld x) (s0::suite) (ts x)) (hd:(nc==("__debug__":Str))=false:=by decide) :
  PS X (.Try [st] [.ExceptHandler (some (.Name nc np)) (some n) (s0::suite) hp] [] [] pos) (tTry X.K CT i tb ts):=by
 intro pins s σ H D I h
 refine wpAny_Try_except (wpAny_execs_cons (wpAny_mono (hb pins s σ H D _ I h) (fun f s1 q=>?_) fun e s1 q=>?_))
 ·cases f with
  | next=>exact wpAny_execs_nil (wpAny_execs_nil q)
  | ret v=>exact q
  | brk=>exact q
  | cont=>exact q
 ·obtain ⟨x,T,C,H',rfl,I1,fl,fx,fT,C',hC,hm1,q⟩:=q
  cases hC
  have mov:∀ {s2:Shared} {h2:Heap} {T1 T2:Addr},Inv X pins σ H' s2->aSx X pins H' T1->(T2=T1∨s2.heap.get? T2=none)->Kpt (frs X.stack) [x,T1] s2.heap h2->Inv X pins σ H' { s2 with heap:=h2 }/\aSx X pins H' T2:=fun {s2 h2 T1 T2} J f1 z k=>by
   refine ⟨J.kpt k fun b hb=>?_,?_⟩
   ·rcases List.mem_cons.mp hb with e | e
    ·rw [e]; exact fx
    ·rw [List.mem_singleton.mp e]; exact f1
   ·rcases z with z | z
    ·rw [z]; exact f1
    ·exact J.frsh hex z (J.hok.none_of z)
  have hfr':X.A.frames=some (X.env::X.outer):=hst ▸ I1.ok.frames
  have hF1:s1.heap.FunFrames X.base (X.env::X.outer):=hst ▸ I1.stack
  refine aUd hfr' hfr hF1 fl fun h2 T2 fl2 z2 k2=>?_
  obtain ⟨I2,fT2⟩:=mov I1 fT z2 (hst ▸ k2)
  refine wpAny_handleBy_cons (codeAny_handlers_test (aH3 (I2.hld x) hg hm ?_ hd)) (by intro q; cases q)
  refine (PySem.W.exm_one I2.kIn (fl2.exR.kitR.ty _) hm1).here ?_
  refine codeAny_handlers_suite_as ?_
  refine aR7 (l:=X.stack) fl2 fun h3 fl3 k3=>?_
  obtain ⟨I3,_⟩:=mov I2 fT2 (.inl rfl) k3
  have I4:=I3.track fx (aXo (C:=C) fl3.exR)
  refine aEo (v:=.ref x) I4 hN hi (.inl hl) rfl (fun s5 I5=>?_) (.inr hl)
  refine wpAny_mono (hs x pins s5 _ _ _ (I5.hld x) (q x fx.h)) (fun f s6 q6=>?_) fun _ _ z=>z.elim
  cases f with
  | next =>
   obtain ⟨σ',H2,I6,q6⟩:=q6
   exact aKl (I6.unhld I.ok.hd) hN hi hl fun s7 I7=>⟨_,H2,I7,q6⟩
  | brk =>
   obtain ⟨σ',H2,I6,q6⟩:=q6
   exact aKl (I6.unhld I.ok.hd) hN hi hl fun s7 I7=>⟨_,H2,I7,q6⟩
  | cont =>
   obtain ⟨σ',H2,I6,q6⟩:=q6
   exact aKl (I6.unhld I.ok.hd) hN hi hl fun s7 I7=>⟨_,H2,I7,q6⟩
  | ret u =>
   obtain ⟨v,σ',H2,I6,r,q6⟩:=q6
   exact aKl (I6.unhld I.ok.hd) hN hi hl fun s7 I7=>⟨v,_,H2,I7,r,q6⟩
end
end L2
namespace L2
open PySem PySem.Spec PyProof.Rows
section
variable {X:Cx} {e:Expr} {te:TEX} {pos:Pos}
end
section
variable {X:Cx}
end
end L2
namespace L2
open PySem PySem.Spec PyProof.Rows
section
variable {prog:Program} {w:World} {A:Around} {E:Value -> Shared -> Prop} {s:Shared}
end
section
variable {X:Cx} {tg:Expr} {y:Addr}
variable {scope:Scope} {tn names:List Str} {is:List Nat} {elt iter:Expr} {ifs:List Expr} {pos:Pos} {wi:TI} {te:TE} {tc:Option TT} {g:TG}
end
section
variable {te:TE} {Q:VK} {H:Hp} {caps:St} {y:Addr}
end
section
variable {X:Cx} {k:Nat} {x:Str} {ps:List Str} {sp:Addr -> Sp} {p pos:Pos} {e:Expr} {es:List Expr} {t:TA} {y:Addr}
end
end L2
namespace L2
open PySem PySem.Spec PyProof.Rows
noncomputable def XrE (K:PySem.W.Frag) (C:Addr):Prop:=∃ (newId Bn inN:String) (bmN:List Value),PySem.W.excIn K C aYa newId=true/\ExcBaseFacts Bn newId inN bmN/\aYa.contains (.type Bn)=true
theorem XrE.ve {K:PySem.W.Frag} {C:Addr} (h:PySem.W.excIn K C aYa "ValueError.__new__"=true):XrE K C:=⟨_,_,_,_,h,F.excBase_ValueError,by decide⟩
theorem aKr:bootBuiltins "ValueError"=some (.type "ValueError"):=by decide +kernel
section
variable {X:Cx}
theorem aFk {E:XK} {C:Addr} {n:Str} {e:Expr} {es:List Expr} {t:TA} {np cpos pos:Pos} (hr:aVo X E) (hc:X.calm=true) (hg:Gl X n) (hm:X.mg n=some (.ref C)) (hx:XrE X.K C) (ha:PA X (e::es) t)
  (hd:(n==("__debug__":Str))=false:=by decide) (he:starEach (e::es) X.env=(false,eval e X.env)::starEach es X.env:=by rfl) (hpl:(backTo cpos (starEach es X.env)).any (·.1)=false:=by rfl) :
  PS X (.Raise (some (.Call (.Name n np) (e::es) [] cpos)) none pos) (aP9 C E t):=by
 obtain ⟨newId,Bn,inN,bmN,h1,h2,h3⟩:=hx
 exact aTk hr hc hg hm h1 h2 h3 ha hd he hpl
noncomputable def rIsX (K:PySem.W.Frag):List V->Hp->VK->Prop:=fun xs H Q=>∃ y C v c b,xs=[.ref y,v]/\H y=some (aSb y C)/\aO3 K C/\aB6 v c/\PySem.W.kitOne K (.ref C) c=some b/\Q (.bl b) H
theorem aOz:aDm X (.builtin "isinstance") (rIsX X.K):=by
 intro pins s σ H xs us Q I r h
 obtain ⟨y,C,v,c,b,rfl,hy,z,rc,e,q⟩:=h
 obtain ⟨u,u',rfl,ru,rv⟩:=aB0.two r
 obtain rfl:u=Value.ref y:=ru
 have ec:u'=c:=by
  cases v with
  | ref a=>exact rv.trans rc.symm
  | ty n=>exact rv.trans rc.symm
  | non=>exact rv.trans rc.symm
  | bl a=>exact rv.trans rc.symm
  | int _=>obtain ⟨t,rfl⟩:=rc; simp [PySem.W.kitOne,PySem.W.kitCls] at e
  | str _=>obtain ⟨t,rfl⟩:=rc; simp [PySem.W.kitOne,PySem.W.kitCls] at e
  | byt _=>obtain ⟨t,rfl⟩:=rc; simp [PySem.W.kitOne,PySem.W.kitCls] at e
  | flt _=>obtain ⟨t,rfl⟩:=rc; simp [PySem.W.kitOne,PySem.W.kitCls] at e
 subst ec
 exact PySem.W.kia_one (aOo z) I.kIn (I.hok y _ hy).1.kitR e (by intro q; cases q) fun tk=>⟨.bl b,H,I.tok tk,rfl,q⟩
end
section
variable {K:PySem.W.Frag} {σ:St} {H:Hp} {Q:VK} {D:aEx} {E:XK}
theorem aZt {y C c:Addr} {b:Bool} (hy:H y=some (aSb y C)) (z:aO3 K C) (e:PySem.W.kitOne K (.ref C) (.ref c)=some b) (k:Q (.bl b) H):rIsX K [.ref y,.ref c] H Q:=⟨y,C,_,_,b,rfl,hy,z,rfl,e,k⟩
theorem aZs {y C:Addr} {T:String} {b:Bool} (hy:H y=some (aSb y C)) (z:aO3 K C) (e:PySem.W.kitOne K (.ref C) (.type T)=some b) (k:Q (.bl b) H):rIsX K [.ref y,.ty T] H Q:=⟨y,C,_,_,b,rfl,hy,z,rfl,e,k⟩
noncomputable def tryE (K:PySem.W.Frag) (CT:Addr) (i:Nat) (ts:Addr->TS) (D:aEx) (σ:St):XK:=fun cv _ H'=>∃ C,cv=.ref C/\PySem.W.exmOne K (.ref C) (.ref CT)=some true /\
 ∀ x,H' x=none->ts x ⟨fun σ' H2=>D.nx (σ'.set i none) H2,D.rt,fun σ' H2=>D.bk (σ'.set i none) H2,fun σ' H2=>D.ct (σ'.set i none) H2⟩ (σ.set i (some (.ref x))) (upd H' x (aSb x C))
theorem r_try {CT:Addr} {i:Nat} {tb:TX} {ts:Addr->TS} (k:tb D (tryE K CT i ts D σ) σ H):tTry K CT i tb ts D σ H:=k
theorem aY4 {C CT:Addr} {i:Nat} {ts:Addr->TS} {o:Option Addr} (e:PySem.W.exmOne K (.ref C) (.ref CT)=some true)
  (k:∀ x,H x=none->ts x ⟨fun σ' H2=>D.nx (σ'.set i none) H2,D.rt,fun σ' H2=>D.bk (σ'.set i none) H2,fun σ' H2=>D.ct (σ'.set i none) H2⟩ (σ.set i (some (.ref x))) (upd H x (aSb x C))):tryE K CT i ts D σ (.ref C) o H:=⟨C,rfl,e,k⟩
theorem aV3 {te:TEX} (k:te σ H (fun _ H1=>D.nx σ H1) E):aYe te D E σ H:=k
theorem aWh {sp:Sp} {t:TA} (k:t σ H fun vs H1=>sp vs H1 Q E):aQe sp [] t σ H Q E:=by
 have e:(fun (vs:List V) H1=>sp (vs++[]) H1 Q E)=fun vs H1=>sp vs H1 Q E:=by
  funext vs H1
  rw [List.append_nil]
 show t σ H fun vs H1=>sp (vs++[]) H1 Q E
 rw [e]; exact k
end
end L2
namespace L2
open PySem PySem.Spec PyProof.Rows
section
variable {X:Cx}
noncomputable def aU1:V->List V->Hp->VK->Prop:=fun x vs H Q=>∃ z y:Str,x=.str z/\vs=[.str y]/\(y.length==0)=false/\z.length<=1000000/\∀ l,H l=none->Q (.ref l) (upd H l (.lst ((Txt.split z y).map V.str)))
theorem aIt:∀ (l:List (Str×Tok)),aB0 ((l.map (·.1)).map V.str) (strValues l)
 | []=>.nil
 | p::r=>.cons ⟨p.2,rfl⟩ (aIt r)
theorem aCu:MtR X "str.split" aU1:=by
 intro pins s σ H x vs v us Q I rx rv h
 obtain ⟨z,y,rfl,rfl,hy,hz,q⟩:=h
 obtain ⟨t,rfl⟩:=rx
 obtain ⟨u,rfl,ru⟩:=rv.one
 obtain ⟨t',rfl⟩:=ru
 have hn:(Builtin.Str.partsBetween z (Builtin.Str.occurrences z y 0 z.length (z.length+1)) y.length).length<=z.length+2:=by
  have:=StrLaws.occ_length_le z y 0 z.length (z.length+1)
  rw [length_partsBetween]
  omega
 have fin:∀ (l:List (Str×Tok)) (k:Nat),l.map (·.1)=Txt.split z y->l.length<=2000000->EP X pins σ Q (.ref s.heap.objs.size) { s with heap:=s.heap.push { cls:=.type "list",data:=.seq (strValues l).toArray },toks:=k }:=fun l k e hl=>by
  refine ⟨.ref s.heap.objs.size,_,I.laid (t':=k) (a:=s.heap.objs.size) (o:=.lst ((Txt.split z y).map V.str)) (fun b o g=>Heap.get?_push_of_some _ g) (Nat.le_refl _) ⟨?_,_,0,?_,Heap.get?_push_size _ rfl⟩,rfl,q _ (I.hok.fresh (Nat.le_refl _))⟩
  ·rw [← e,List.length_map,List.length_map,sizeLine_eq]
   omega
  ·rw [← e]
   exact aIt l
 have sz:z.length<=sizeLine:=by rw [sizeLine_eq]; omega
 cases h1:(decide (z.length < y.length) || decide (Builtin.Str.strKind z < Builtin.Str.strKind y))
 ·cases hf:(Builtin.Str.occurrences z y 0 z.length (z.length+1)).isEmpty
  ·refine call_meets F.slot_str_split (typeIs_str _ _ _) F.entry_str_split (F.args_str_split_2 _ _) (meets_str_split_sep z y t t' h1 hy hf sz (by rw [sizeLine_eq]; omega)) ?_
   show wants _ _ _ { s with toks:=_,heap:=s.heap.push { cls:=.type "list",data:=.seq (strsFrom s.toks (Builtin.Str.partsBetween z (Builtin.Str.occurrences z y 0 z.length (z.length+1)) y.length)).toArray } }
   rw [strsFrom_eq]
   have e:=numbered_texts s.toks (Builtin.Str.partsBetween z (Builtin.Str.occurrences z y 0 z.length (z.length+1)) y.length)
   have e2:=congrArg List.length e
   rw [List.length_map] at e2
   exact fin _ _ (e.trans ((if_neg (ne_true_of_eq_false h1)).trans (if_neg (ne_true_of_eq_false hf))).symm) (by omega)
  ·refine call_meets F.slot_str_split (typeIs_str _ _ _) F.entry_str_split (F.args_str_split_2 _ _) (meets_str_split_not_found z y t t' h1 hy hf) ?_
   exact fin [(z,t)] s.toks ((if_neg (ne_true_of_eq_false h1)).trans (if_pos hf)).symm (by simp)
 ·refine call_meets F.slot_str_split (typeIs_str _ _ _) F.entry_str_split (F.args_str_split_2 _ _) (meets_str_split_cannot_occur z y t t' h1) ?_
  exact fin [(z,t)] s.toks (if_pos h1).symm (by simp)
end
end L2
namespace L2
open PySem PySem.Spec PyProof.Rows
noncomputable def Its (z:Str):It:=⟨fun i _=>i < z.cps.size,fun i H x H'=>H'=H/\∃ c,z.cps[i]?=some c/\x=.str ⟨#[c]⟩,fun i _=>z.cps.size<=i⟩
theorem aO7 {P:Program} {w:World} {K:PySem.W.Frag} {tg:Expr} (it:Addr) (z:Str) (t:Tok) (n:String) (hn:n="str_ascii_iterator"∨n="str_iterator"):bCf P w K tg (Its z) [it] it (fun i h=>h.IsStrIter it n z t i) where
 mem:=by simp
 obj:=fun i h st b hb=>by
  obtain rfl:b=it:=by simpa using hb
  obtain ⟨o,e,c,d⟩:=st
  exact ⟨o,e,fun v y=>by rw [d] at y; cases y⟩
 keep:=fun i h h' st k=>let ⟨o,e,r⟩:=st; ⟨o,k it (by simp) o e,r⟩
 item:=by
  intro X hP hw hK hc i pins s σ H E I hf st hg
  subst hP hw hK
  obtain ⟨f0,f1,f2,f3,f4,f5⟩:=hf it (by simp)
  have hg:i < z.cps.size:=hg
  have ec:z.cps[i]?=some z.cps[i]:=by simp [hg]
  have fin:∀ h',h'.IsStrIter it n z t (i+1)->Heap.SameBut it s.heap h'->∃ u,some (Value.str ⟨#[z.cps[i]]⟩ s.toks)=some u /\
    wpAny (model X.prog X.w) X.A (letOwnedTupleGo tg (.ref it) u) (fun _ s2=>∃ x H',Inv X pins σ H' s2/\aB6 x u/\(Its z).yld i H x H'/\s2.heap.IsStrIter it n z t (i+1)/\∀ b∈[it],H' b=none) E { s with heap:=h',toks:=s.toks+1 }:=fun h' st' sb=>by
   have I1:Inv X pins σ H { s with heap:=h',toks:=s.toks+1 }:=I.turned (fun b o hb e=>(sb.2 b hb).trans e) f0 f1 f3 f4 f5
   obtain ⟨o,e,c,d⟩:=id st'
   have hno:["enumerate","zip","dict_itemiterator","dict_reverseitemiterator","odict_iterator","itertools.zip_longest","itertools.pairwise"].contains n=false:=by
    rcases hn with rfl | rfl <;> decide
   exact ⟨_,rfl,aT9 (s:={ s with heap:=h',toks:=s.toks+1 }) e c d hno ⟨.str ⟨#[z.cps[i]]⟩,H,I1,⟨_,rfl⟩,⟨rfl,_,ec,rfl⟩,st',fun b hb=>(hf b hb).1⟩⟩
  rcases hn with rfl | rfl
  ·exact wpAny_pyNext_ascii_item st ec fin
  ·exact wpAny_pyNext_wide_item st ec fin
 done:=by
  intro X hP hw hK hc i pins s σ H E I hf st hg
  subst hP hw hK
  obtain ⟨f0,f1,f2,f3,f4,f5⟩:=hf it (by simp)
  have hg:z.cps.size<=i:=hg
  have ec:z.cps[i]?=none:=by simp [hg]
  rcases hn with rfl | rfl
  ·exact wpAny_pyNext_ascii_end (I.ok.hd hc) st ec fun h' eb=>⟨rfl,I.turned (t':=s.toks) (fun b o hb e=>eb b o hb e) f0 f1 f3 f4 f5⟩
  ·exact wpAny_pyNext_wide_end (I.ok.hd hc) st ec fun h' eb=>⟨rfl,I.turned (t':=s.toks) (fun b o hb e=>eb b o hb e) f0 f1 f3 f4 f5⟩
 self:=fun _ _ _ _ _ st h=>by
  rcases hn with rfl | rfl
  ·exact wpAny_pyIter_striter_ascii st h
  ·exact wpAny_pyIter_striter_wide st h
section
variable {X:Cx} {tg:Expr}
noncomputable def aVd (tl:TE):TI:=fun σ H R=>tl σ H fun x H1=>∃ z,x=.str z/\R (Its z) H1
theorem aG4 {l:Expr} {tl:TE} (hl:PE X l tl):PI X tg l (aVd tl):=by
 intro pins s σ H R I h
 refine thn (hl pins s σ H _ I h) fun v s1 ⟨x,H1,I1,r1,z,e,q⟩=>?_
 subst e
 obtain ⟨t,rfl⟩:=r1
 refine wpAny_pyIter_strU ?_
 refine ⟨s1.heap.objs.size,[s1.heap.objs.size],_,_,H1,rfl,I1.kept (t':=s1.toks) fun b o e=>Heap.get?_push_of_some _ e,aO7 _ z t (strIterType z) ?_,⟨_,Heap.get?_push_size _ rfl,rfl,rfl⟩,fun b hb=>?_,q⟩
 ·unfold strIterType
  split
  ·exact .inl rfl
  ·exact .inr rfl
 ·obtain rfl:b=s1.heap.objs.size:=by simpa using hb
  exact I1.fpOk (Nat.le_refl _) (I1.hok.fresh (Nat.le_refl _))
noncomputable def bAo:R2:=fun x y H Q=>∃ (c:Nat) (z:Str),x=.str ⟨#[c]⟩/\y=.str z/\Q (.bl (decide (c∈z.cps.toList))) H
theorem aRa:OpR X (compareOp .In) bAo:=by
 intro pins s σ H x y v u Q I rx ry h
 obtain ⟨c,z,rfl,rfl,q⟩:=h
 obtain ⟨t,rfl⟩:=rx
 obtain ⟨t',rfl⟩:=ry
 refine P.in_str ⟨.bl _,H,I,rfl,?_⟩
 rw [StrLaws.found_one]
 exact q
noncomputable def bAq (K:PySem.W.Frag):List V->Hp->VK->Prop:=fun vs H Q=>∃ (p:Addr) (bs:List Bool),vs=[.ref p]/\SqL K H p (bs.map V.bl)/\Q (.bl (bs.all id)) H
theorem aSt:∀ (bs:List Bool),(List.range bs.length).all (fun i=>(bs[i]?).getD true)=bs.all id:=by
 intro bs
 rw [Bool.eq_iff_iff,List.all_eq_true,List.all_eq_true]
 constructor
 ·intro h x hx
  obtain ⟨i,hi,e⟩:=List.getElem_of_mem hx
  have q:=h i (List.mem_range.mpr hi)
  rw [List.getElem?_eq_getElem hi,e] at q
  exact q
 ·intro h i hi
  have hi:=List.mem_range.mp hi
  have q:=h bs[i] (List.getElem_mem hi)
  rw [List.getElem?_eq_getElem hi]
  exact q
theorem aJe (hc:X.calm=true):aDm X (.builtin "all") (bAq X.K):=by
 intro pins s σ H xs us Q I r h
 obtain ⟨p,bs,rfl,hp,q⟩:=h
 obtain ⟨u,rfl,rx⟩:=r.one
 cases rx
 obtain ⟨its,rl,ht,hz⟩:=I.list hp
 have hlt:p < s.heap.objs.size:=by
  obtain ⟨_,e,_⟩:=ht.isList
  exact Heap.lt_size e
 have hlen:=rl.length
 rw [List.length_map] at hlen
 refine call_all_walk (wpAny_pyIter_list ht.isList ?_)
 refine ⟨s.heap.objs.size,[s.heap.objs.size,p],[s.heap.objs.size],its.toArray.size,_,_,fun i=>(bs[i]?).getD true,rfl,Walks.list (A:=X.A.in1) (I.ok.hd hc) _ p (Nat.ne_of_lt hlt) its.toArray,⟨⟨_,Heap.get?_push_size _ rfl,rfl,rfl⟩,ht.isList.at fun o e=>Heap.get?_push_of_some _ e⟩,?_,fun h' tk hk=>?_⟩
 ·intro i v s' Q' E' hv hq
  have hv:its[i]?=some v:=by simpa using hv
  have hi:i < bs.length:=by
   have:=(List.getElem?_eq_some_iff.mp hv).1
   omega
  obtain ⟨u,e1,r1⟩:=rl.get (i:=i) (x:=.bl bs[i]) (by simp [hi])
  rw [hv] at e1
  cases e1
  obtain rfl:v=Value.bool bs[i]:=r1
  refine wpAny_truthy_bool ?_
  have hq:Q' ((bs[i]?).getD true) s':=hq
  rw [List.getElem?_eq_getElem hi] at hq
  exact hq
 ·refine ⟨.bl _,H,I.kept (t':=tk) fun b o e=>hk b o (fun z=>?_) (Heap.get?_push_of_some _ e),?_,q⟩
  ·exact absurd (Heap.lt_size e) (by rw [List.mem_singleton.mp z]; exact Nat.lt_irrefl _)
  ·show Value.bool _=Value.bool _
   rw [List.size_toArray,← hlen,aSt]
end
section
variable {te:TE} {Q:VK} {H:Hp} {σ caps:St} {wi:TI} {tc:TT} {K:PySem.W.Frag}
theorem aTh {tl:TE} {R:It->Hp->Prop} (k:tl σ H fun x H1=>∃ z,x=.str z/\R (Its z) H1):aVd tl σ H R:=k
theorem aQ0 {z:Str} (hn:z.length<=1000) (Pv:Addr->Nat->List V->Hp->Prop) (h0:∀ acc,H acc=none->Pv acc 0 [] (upd H acc (.lst [])))
  (hs:∀ acc i ys H1 c,H acc=none->z.cps[i]?=some c->ys.length=i->H1 acc=some (.lst ys)->Pv acc i ys H1->te (some (.str ⟨#[c]⟩)::caps) H1 (aPs z.length acc (Pv acc) ys i))
  (hd:∀ acc ys H1,H acc=none->H1 acc=some (.lst ys)->ys.length=z.length->Pv acc z.length ys H1->Q (.ref acc) H1):aIe te none (aGr 0) (List.replicate 1 none) caps Q (Its z) H:=by
 intro acc hacc
 refine ⟨cW z.length acc (Pv acc),⟨z.length,by simp,Nat.zero_le _,rfl,aAd,h0 acc hacc⟩,?_⟩
 rintro i m ys H1 ⟨rfl,hi,hl,ha,p⟩
 refine ⟨ha,?_⟩
 by_cases hlt:i < z.length
 ·refine .inr ⟨aC4 (by omega),hlt,fun us x H' hu y=>?_⟩
  obtain ⟨e,c,ec,y⟩:=y
  subst e y
  obtain ⟨o,rfl⟩:=bBi hu
  exact ⟨⟨[some (.str ⟨#[c]⟩)],rfl,rfl⟩,hs acc i ys _ c hacc ec hl ha p⟩
 ·have e:i=z.length:=by omega
  subst e
  exact .inl ⟨Nat.le_refl _,hd acc ys H1 hacc ha hl p⟩
theorem aZx {c:Nat} {z:Str} (k:Q (.bl (decide (c∈z.cps.toList))) H):bAo (.str ⟨#[c]⟩) (.str z) H Q:=⟨c,z,rfl,rfl,k⟩
theorem aI5 {p:Addr} {bs:List Bool} (h:H p=some (.lst (bs.map V.bl))) (k:Q (.bl (bs.all id)) H):bAq K [.ref p] H Q:=⟨p,bs,rfl,SqL.of h,k⟩
theorem aDk {z y:Str} (hy:(y.length==0)=false) (hz:z.length<=1000000) (k:∀ l,H l=none->Q (.ref l) (upd H l (.lst ((Txt.split z y).map V.str)))):aU1 (.str z) [.str y] H Q:=⟨z,y,rfl,rfl,hy,hz,k⟩
end
section
variable {r r':R2} {ta tb tc:TE} {x y:V} {σ:St} {H:Hp} {Q:VK} {c:Bool}
noncomputable def chnD (r':R2) (y:V) (Q:VK):VK:=fun w' H4=>r' y w' H4 Q
noncomputable def chnC (r':R2) (tc:TE) (y:V) (σ:St) (Q:VK):VK:=fun z H3=>∃ k,z=.bl k/\(if k=true then tc σ H3 (chnD r' y Q) else Q (.bl false) H3)
noncomputable def chnB (r r':R2) (tc:TE) (x:V) (σ:St) (Q:VK):VK:=fun y H2=>r x y H2 (chnC r' tc y σ Q)
noncomputable def chnA (r r':R2) (tb tc:TE) (σ:St) (Q:VK):VK:=fun x H1=>tb σ H1 (chnB r r' tc x σ Q)
theorem aWg (k:ta σ H (chnA r r' tb tc σ Q)):aQd r r' ta tb tc σ H Q:=k
theorem bAc (k:tb σ H (chnB r r' tc x σ Q)):chnA r r' tb tc σ Q x H:=k
theorem bAb (k:r x y H (chnC r' tc y σ Q)):chnB r r' tc x σ Q y H:=k
theorem bAa (k:if c=true then tc σ H (chnD r' y Q) else Q (.bl false) H):chnC r' tc y σ Q (.bl c) H:=⟨c,rfl,k⟩
theorem aZ9 (k:r' x y H Q):chnD r' x Q y H:=k
end
section
variable {K:PySem.W.Frag} {H H':Hp}
noncomputable def NS (K:PySem.W.Frag) (H:Hp) (x:V):Prop:=∃ t,aIm K H x t/\PySem.W.kitOne K t (.type "str")=some false
theorem NS.int (i:Int):NS K H (.int i):=⟨_,.int i,aNa⟩
theorem NS.non:NS K H .non:=⟨_,.non,aGp⟩
theorem NS.lst {p:Addr} {xs:List V} (h:H p=some (.lst xs)):NS K H (.ref p):=⟨_,.lst h,aLz⟩
end
noncomputable def pst:List Nat->Nat->Nat->Bool
 | [],k,n=>decide (k<=4)&&(decide (1<=n)&&decide (n<=8))
 | c::r,k,n=>if c=46 then (decide (1<=n)&&decide (n<=8))&&pst r (k+1) 0 else (decide (97<=c)&&decide (c < 123))&&pst r k (n+1)
noncomputable def aBx (z:Str):Bool:=pst z.cps.toList 1 0
noncomputable def aA3 (z:Str):Bool:=(decide (1<=z.length)&&decide (z.length<=8))&&z.cps.toList.all fun c=>decide (97<=c)&&decide (c < 123)
theorem aG1:∀ (l:List Nat) (r:List Nat) (k n:Nat),46∉l->pst (l++r) k n=((l.all fun c=>decide (97<=c)&&decide (c < 123))&&pst r k (n+l.length))
 | [],r,k,n,_=>by simp
 | c::l,r,k,n,h=>by
  have h1:c≠46:=fun e=>h (by simp [e])
  have h2:46∉l:=fun e=>h (by simp [e])
  show (if c=46 then _ else _)=_
  rw [if_neg h1]
  show ((decide (97<=c)&&decide (c < 123))&&pst (l++r) k (n+1))=_
  rw [aG1 l r k (n+1) h2,List.all_cons,List.length_cons,show n+1+l.length=n+(l.length+1) by omega]
  simp only [Bool.and_assoc]
theorem aL4 (x:Str):(Str.join ⟨#[46]⟩ [x]).cps.toList=x.cps.toList:=rfl
theorem aRv (x y:Str) (r:List Str):(Str.join ⟨#[46]⟩ (x::y::r)).cps.toList=x.cps.toList++46::(Str.join ⟨#[46]⟩ (y::r)).cps.toList:=by
 show (((x.cps++#[46])++(Str.join ⟨#[46]⟩ (y::r)).cps):Array Nat).toList=_
 simp
theorem aBt (z:Str):z.length=z.cps.toList.length:=by unfold Str.length; simp
theorem aG2:∀ (ps:List Str) (x:Str) (k:Nat),(∀ p∈x::ps,46∉p.cps.toList)->pst (Str.join ⟨#[46]⟩ (x::ps)).cps.toList k 0=(decide (k+ps.length<=4)&&(x::ps).all aA3)
 | [],x,k,h=>by
  rw [aL4]
  have q:=aG1 x.cps.toList [] k 0 (h x (by simp))
  rw [List.append_nil] at q
  rw [q,Nat.zero_add,← aBt]
  show (_&&(decide (k<=4)&&_))=_
  simp only [List.all_cons,List.all_nil,Bool.and_true,aA3,List.length_nil,Nat.add_zero]
  cases decide (k<=4) <;> cases (decide (1<=x.length)&&decide (x.length<=8)) <;> cases (x.cps.toList.all fun c=>decide (97<=c)&&decide (c < 123)) <;> rfl
 | y::r,x,k,h=>by
  have ih:=aG2 r y (k+1) fun p hp=>h p (List.mem_cons_of_mem _ hp)
  rw [aRv,aG1 _ _ k 0 (h x (by simp))]
  show (_&&(if 46=46 then _ else _))=_
  rw [if_pos rfl,ih,Nat.zero_add,← aBt,List.all_cons (a:=x),List.length_cons]
  show (_&&(_&&(decide (k+1+r.length<=4)&&_)))=(decide (k+(r.length+1)<=4)&&(((_&&_)&&_)&&_))
  rw [show k+1+r.length=k+(r.length+1) by omega]
  cases decide (k+(r.length+1)<=4) <;> cases decide (1<=x.length) <;> cases decide (x.length<=8) <;> cases (x.cps.toList.all fun c=>decide (97<=c)&&decide (c < 123)) <;> cases (y::r).all aA3 <;> rfl
theorem aF4 (z:Str):aBx z=(decide ((Txt.split z ⟨#[46]⟩).length<=4)&&(Txt.split z ⟨#[46]⟩).all aA3):=by
 have h1:=StrLaws.join_split z ⟨#[46]⟩
 have h2:=StrLaws.split_free z 46
 have h3:=split_pos z ⟨#[46]⟩
 unfold aBx
 generalize hs:Txt.split z ⟨#[46]⟩=ps at h1 h2 h3 ⊢
 cases ps with
 | nil=>simp at h3
 | cons x r =>
  rw [← h1,aG2 r x 1 h2,List.length_cons,show 1+r.length=r.length+1 by omega]
theorem aDw {x y a:Str} (h:a∈Txt.split x y):a.length<=x.length:=part_short h
theorem aIu (x y:Str):(Txt.split x y).length<=x.length+2:=split_le x y
theorem aIm.sm {K:PySem.W.Frag} {H H':Hp} {x:V} {t:Value} (ty:aIm K H x t) (s:aAm H H'):aIm K H' x t:=by
 cases ty with
 | non=>exact .non
 | bl x=>exact .bl x
 | int i=>exact .int i
 | str x=>exact .str x
 | flt x=>exact .flt x
 | lst e=>exact .lst (s _ _ e)
 | frz e=>exact .frz (s _ _ e)
 | tup e=>exact .tup (s _ _ e)
 | dK e=>exact .dK (s _ _ e)
 | dT e=>exact .dT (s _ _ e)
 | ins e cl ha hn htk hm=>exact .ins (s _ _ e) cl ha hn htk hm
theorem NS.sm {K:PySem.W.Frag} {H H':Hp} {x:V} (h:NS K H x) (s:aAm H H'):NS K H' x:=let ⟨t,ty,e⟩:=h; ⟨t,aIm.sm ty s,e⟩
theorem aXv (a b:Str):(a++b).cps.toList=a.cps.toList++b.cps.toList:=by
 show (a.cps++b.cps).toList=_
 simp
theorem aOn (a b:Str):(a++b).length=a.length+b.length:=by
 rw [aBt,aBt,aBt,aXv,List.length_append]
theorem aC2 {z:Str} (h:aA3 z=true):1<=z.length/\z.length<=8/\46∉z.cps.toList:=by
 unfold aA3 at h
 rw [Bool.and_eq_true,Bool.and_eq_true,decide_eq_true_iff,decide_eq_true_iff,List.all_eq_true] at h
 refine ⟨h.1.1,h.1.2,fun m=>?_⟩
 exact absurd (h.2 _ m) (by decide)
theorem aQf:∀ {cs:List Str},(∀ c∈cs,c.length<=8)->(cs.map (·.length)).sum<=8 * cs.length
 | [],_=>Nat.le_refl _
 | c::r,h=>by
  have h1:=h c (by simp)
  have h2:=aQf (cs:=r) fun d hd=>h d (List.mem_cons_of_mem _ hd)
  rw [List.map_cons,List.sum_cons,List.length_cons]
  omega
theorem aH1 (c:Nat):decide (c∈("abcdefghijklmnopqrstuvwxyz":Str).cps.toList)=(decide (97<=c)&&decide (c < 123)):=by
 have e:("abcdefghijklmnopqrstuvwxyz":Str).cps.toList=List.range' 97 26:=by decide +kernel
 rw [e,Bool.eq_iff_iff,Bool.and_eq_true,decide_eq_true_iff,decide_eq_true_iff,decide_eq_true_iff]
 exact List.mem_range'_1
end L2
namespace L2
open PySem PySem.Spec PyProof.Rows
theorem aOq {s:Str} {ys:List Str}:inV (.str s) (ys.map V.str)=decide (s∈ys):=by
 unfold inV
 induction ys with
 | nil=>simp
 | cons y r ih =>
  rw [List.map_cons,List.any_cons,ih]
  show ((y==s) || _)=_
  by_cases e:y=s
  ·subst e
   simp
  ·have e2:¬ s=y:=fun z=>e z.symm
   simp [e,e2]
theorem aH8:∀ ys:List Str,(ys.map V.str).all aGs=true
 | []=>rfl
 | y::r=>by rw [List.map_cons,List.all_cons,aH8 r]; rfl
section
variable {σ:St} {H:Hp} {Q:VK} {K:PySem.W.Frag}
theorem aZg {p:Addr} {ys:List Str} {s:Str} (h:H p=some (.lst (ys.map V.str))) (k:Q (.bl (!decide (s∈ys))) H):rIn K true (.str s) (.ref p) H Q:=⟨p,_,rfl,.inl (SqL.of h),rfl,aH8 _,by rw [aOq]; exact k⟩
theorem r_inS {p:Addr} {ys:List Str} {s:Str} (h:H p=some (.lst (ys.map V.str))) (k:Q (.bl (decide (s∈ys))) H):rIn K false (.str s) (.ref p) H Q:=⟨p,_,rfl,.inl (SqL.of h),rfl,aH8 _,by rw [aOq]; exact k⟩
end
noncomputable abbrev sC:Str:=Str.ofString "c"
noncomputable def n2:List aUk:=[(sA,sB,Rat.divInt 1 2),(sB,sC,Rat.divInt 1 3)]
end L2
namespace L2
open PySem PySem.Spec PyProof.Rows
section
variable {H:Hp} {Q:VK} {K:PySem.W.Frag} {σ:St} {D:aEx} {v:V}
theorem r_aug {i:Nat} {te:TE} {ti:TIp} {x:V} (h:σ[i]?=some (some x)) (k:te σ H fun y H1=>ti x y H1 fun z H2=>D.nx (σ.set i (some z)) H2):tAug i te ti D σ H:=⟨x,h,k⟩
end
theorem aEf {nm:List Str} {i:Int} (h0:0<=i) (h1:i < nm.length):∃ s,s∈nm/\atI (nm.map V.str) i=some (.str s):=by
 obtain ⟨z,hz,e⟩:=bAv (xs:=nm.map V.str) h0 (by rw [List.length_map]; exact h1)
 obtain ⟨s,hs,rfl⟩:=List.mem_map.mp hz
 exact ⟨s,hs,e⟩
end L2
namespace L2
open PySem PySem.Spec PyProof.Rows
section
variable {X:Cx} {k n:Nat} {x:Str} {ps ks:List Str} {dvs:List V} {sp:Sp} {p pos:Pos} {e:Expr} {es:List Expr} {kws:List Keyword} {t tk:TA}
end
theorem aQz {s:TS} {D:aEx} {σ:St} {H:Hp} (J:St->Hp->Prop) (hJ:∀ σ H,J σ H->D.nx σ H) (k:∀ NX:St->Hp->Prop,(∀ σ H,J σ H->NX σ H)->s ⟨NX,D.rt,D.bk,D.ct⟩ σ H):s D σ H:=k D.nx hJ
section
variable {σ:St} {H:Hp} {Q:VK} {K:PySem.W.Frag}
end
noncomputable def n3:List aUk:=[(sA,sB,Rat.divInt 1 2),(sB,sC,Rat.divInt 1 1)]
noncomputable def ts3:List (Key×Rat):=[(Sum.inl 0,Rat.divInt 1 2),(Sum.inl 1,Rat.divInt 1 1)]
noncomputable def tk3:Nat->Option Rat:=fun k=>aget (lst ts3) (Sum.inl (k:Int))
end L2
namespace L2
open PySem PySem.Spec PyProof.Rows
section
variable {X:Cx}
end
section
variable {H:Hp} {Q:VK} {u v:V} {a b:Option Rat}
end
section
variable {net:List (bCg Key)} {a b:Key} {m:Rat} {tk:Nat -> Option Rat} {f:Key -> Option Rat}
end
noncomputable def prs (ys:List Str):List (Str×Str):=ys.flatMap fun y=>ys.map fun z=>(y,z)
theorem Pd.cut {β:Type} {R:V->β->Prop} {xs:List V} {ds:List β} (h:Paired R xs ds) (a b:Nat):Paired R ((xs.drop a).take b) ((ds.drop a).take b):=by
 have hd:∀ (a:Nat) {xs:List V} {ds:List β},Paired R xs ds->Paired R (xs.drop a) (ds.drop a):=fun a=>by
  induction a with
  | zero=>exact fun h=>h
  | succ a ih =>
   intro xs ds h
   cases h with
   | nil=>exact .nil
   | cons r t=>exact ih t
 have ht:∀ (b:Nat) {xs:List V} {ds:List β},Paired R xs ds->Paired R (xs.take b) (ds.take b):=fun b=>by
  induction b with
  | zero=>exact fun h=>.nil
  | succ b ih =>
   intro xs ds h
   cases h with
   | nil=>exact .nil
   | cons r t=>exact .cons r (ih t)
 exact ht b (hd a h)
end L2
namespace L2
open PySem PySem.Spec PyProof.Rows
noncomputable def fW (n:Nat) (acc:Addr) (Pv:Nat->List V->Hp->Prop):Nat->Nat->List V->Hp->Prop:=fun i m ys H1=>m=n - i/\i<=n/\ys.length<=i/\H1 acc=some (.lst ys)/\Pv i ys H1
noncomputable def bB2 (n:Nat) (acc:Addr) (Pv:Nat->List V->Hp->Prop) (ys:List V) (i:Nat):VK:=fun y H3=>H3 acc=some (.lst ys)/\∃ m',m' < n - i/\fW n acc Pv (i+1) m' (ys++[y]) (upd H3 acc (.lst (ys++[y])))
noncomputable def bB1 (n:Nat) (acc:Addr) (Pv:Nat->List V->Hp->Prop) (ys:List V) (i:Nat) (H3:Hp):Prop:=∃ m',m' < n - i/\fW n acc Pv (i+1) m' ys H3
theorem bB0 {n:Nat} {acc:Addr} {Pv:Nat->List V->Hp->Prop} {ys:List V} {i:Nat} {y:V} {H3:Hp} (hlt:i < n) (hl:ys.length<=i) (ha:H3 acc=some (.lst ys)) (p:Pv (i+1) (ys++[y]) (upd H3 acc (.lst (ys++[y])))):bB2 n acc Pv ys i y H3 :=
 ⟨ha,n - (i+1),by omega,rfl,hlt,by rw [List.length_append]; simp; exact hl,aAd,p⟩
theorem bBz {n:Nat} {acc:Addr} {Pv:Nat->List V->Hp->Prop} {ys:List V} {i:Nat} {H3:Hp} (hlt:i < n) (hl:ys.length<=i) (ha:H3 acc=some (.lst ys)) (p:Pv (i+1) ys H3):bB1 n acc Pv ys i H3 :=
 ⟨n - (i+1),by omega,rfl,hlt,by omega,ha,p⟩
section
variable {te:TE} {Q:VK} {H:Hp} {caps:St} {K:PySem.W.Frag}
end
section
variable {X:Cx} {tg:Expr}
end
section
variable {σ:St} {H:Hp} {D:aEx} {K:PySem.W.Frag}
end
section
variable {X:Cx}
end
section
variable {H:Hp} {Q:VK}
end
end L2
namespace L2
open PySem PySem.Spec PyProof.Rows
section
variable {net:List (bCg Key)} {push:Key -> Option Rat} {tk:Nat -> Option Rat}
end
noncomputable def but (ks:List Nat) (j:Nat):List Nat:=ks.filter fun k=>decide (k≠j)
noncomputable def n4:List aUk:=[(sA,sB,Rat.divInt 1 1),(sB,sA,Rat.divInt 1 1)]
theorem aY6 {H:Hp} {Q:VK} {z:Str} {lo hi:Option Int} (hz:z.length<=100000) (k:Q (.str (Txt.slice z lo hi)) H):rSlS (.str z) lo hi H Q:=⟨z,rfl,by rw [sizeLine_eq]; omega,k⟩
section
variable {X:Cx} {scope:Scope} {caps:List (Str×Addr)} {N:List Str} {C:Addr} {s0:Shared} {H0:Hp} {ex:List Addr}
end
section
variable {te:TE} {Q:VK} {H:Hp} {caps:St} {K:PySem.W.Frag} {σ:St}
noncomputable def ittK (K:PySem.W.Frag) (R:It->Hp->Prop):VK:=fun x H1=>∃ a,x=.ref a/\(∃ xs,SqT K H1 a xs)/\R (Itt K a) H1
theorem aZy {tl:TE} {R:It->Hp->Prop} (k:tl σ H (ittK K R)):iTup K tl σ H R:=k
theorem aV4 {a:Addr} {xs:List V} {R:It->Hp->Prop} (h:SqT K H a xs) (k:R (Itt K a) H):ittK K R (.ref a) H:=⟨a,rfl,⟨xs,h⟩,k⟩
end
theorem aUx {H:Hp} {R:Hp->Prop} {p:Addr} {xs:List V} {j:Nat} {v:V} (h:H p=some (.lst xs)) (hj:j < xs.length) (k:R (upd H p (.lst (xs.set j v)))):bAh (.ref p) (.int (j:Int)) v H R:=⟨p,xs,j,j,rfl,rfl,h,by
 unfold ixN
 simp
 omega,k⟩
theorem aEv {X:Cx} {scope:Scope} {caps:List (Str×Addr)} {N:List Str} {C:Addr} {s0:Shared} {H0:Hp} {ex:List Addr}:OpR (aA1 X scope caps N C s0 H0 ex) (binaryOp .Add) (aIp X.K):=aAs
noncomputable def n5:List aUk:=[(sA,sB,Rat.divInt 1 1)]
end L2
namespace L2
open PySem PySem.Spec PyProof.Rows
theorem aXr:∀ i,i < 1000->(Str.ofString (toString ((i:Nat):Int))).length<=10:=by decide +kernel
section
variable {X:Cx}
noncomputable def aYn (te:TE):TE:=fun σ H Q=>te σ H fun x H1=>∃ i:Nat,x=.int i/\i < 1000/\∀ z:Str,z.length<=10->Q (.str z) H1
theorem aRo {i:Nat} (h:i < 1000):((i:Nat):Int).natAbs.log2 < 1920:=by
 rw [Int.natAbs_natCast]
 by_cases e:i=0
 ·subst e; decide
 ·have h1:i.log2 < 10:=(Nat.log2_lt e).mpr (by omega)
  omega
theorem bA1 {e:Expr} {te:TE} {pos:Pos} (he:PE X e te):PE X (.FormattedValue e (-1) none pos) (aYn te):=by
 intro pins s σ H Q I h
 refine wpAny_FormattedValue_plain (thn (he pins s σ H _ I h) fun v s1 ⟨x,H1,I1,r1,i,e1,hi,q⟩=>?_)
 subst e1
 obtain ⟨t,rfl⟩:=r1
 exact wpAny_formatField_int (aRo hi) ⟨.str _,H1,I1.tok _,⟨_,rfl⟩,q _ (aXr i hi)⟩
noncomputable def tJn:List TE->TE
 | [],_,H,Q=>∀ z:Str,Q (.str z) H
 | t::r,σ,H,Q=>t σ H fun x H1=>∃ y:Str,x=.str y/\y.length<=200000/\tJn r σ H1 Q
inductive PJs (X:Cx):List Expr->List TE->Prop
 | nil:PJs X [] []
 | cons {v:Expr} {vs:List Expr} {t:TE} {ts:List TE} (h:PE X v t) (r:PJs X vs ts):PJs X (v::vs) (t::ts)
theorem aU5:PJs X [] []:=.nil
theorem aHu {v:Expr} {vs:List Expr} {t:TE} {ts:List TE} (h:PE X v t) (r:PJs X vs ts):PJs X (v::vs) (t::ts):=.cons h r
theorem aOp {pins:List (Addr×Obj)} {σ:St} {Q:VK}:∀ {vs:List Expr} {ts:List TE} (_:PJs X vs ts) (n:Nat) (acc:Str) (s:Shared) (H:Hp),acc.length<=200000 * n->ts.length+n<=60->Inv X pins σ H s->tJn ts σ H Q ->
  Joins (model X.prog X.w) X.A X.xe (evalEach vs X.env) acc (fun out s₁=>out.length<=sizeLine/\EP X pins σ Q (.str out s₁.toks) { s₁ with toks:=s₁.toks+1 }) s
 | _,_,.nil,n,acc,s,H,ha,hn,I,h=>⟨by rw [sizeLine_eq]; omega,.str acc,H,I.tok _,⟨_,rfl⟩,h acc⟩
 | v::vs,t::ts,.cons hp r,n,acc,s,H,ha,hn,I,h=>by
  show wpAny _ _ (eval v X.env) _ _ s
  rw [List.length_cons] at hn
  refine thn (hp pins s σ H _ I h) fun u s1 ⟨x,H1,I1,r1,y,e1,hy,q⟩=>?_
  subst e1
  obtain ⟨tk,rfl⟩:=r1
  have hl:=aOn acc y
  refine ⟨y,tk,rfl,by rw [hl,sizeLine_eq]; omega,aOp r (n+1) (acc++y) s1 H1 (by omega) (by omega) I1 q⟩
theorem bA0 {v1 v2:Expr} {aDj:List Expr} {ts:List TE} {pos:Pos} (h:PJs X (v1::v2::aDj) ts) (hn:ts.length<=50):PE X (.JoinedStr (v1::v2::aDj) pos) (tJn ts):=by
 intro pins s σ H Q I hq
 exact wpAny_JoinedStr (aOp h 0 Str.empty s H (Nat.le_refl _) (by omega) I hq)
theorem r_jn0 {σ:St} {H:Hp} {Q:VK} (k:∀ z:Str,Q (.str z) H):tJn [] σ H Q:=k
noncomputable def jnK (r:List TE) (σ:St) (Q:VK):VK:=fun x H1=>∃ y:Str,x=.str y/\y.length<=200000/\tJn r σ H1 Q
theorem r_jn {t:TE} {r:List TE} {σ:St} {H:Hp} {Q:VK} (k:t σ H (jnK r σ Q)):tJn (t::r) σ H Q:=k
theorem r_jnK {r:List TE} {σ:St} {H:Hp} {Q:VK} {y:Str} (hy:y.length<=200000) (k:tJn r σ H Q):jnK r σ Q (.str y) H:=⟨y,rfl,hy,k⟩
noncomputable def fmK (Q:VK):VK:=fun x H1=>∃ i:Nat,x=.int i/\i < 1000/\∀ z:Str,z.length<=10->Q (.str z) H1
theorem r_fmt {te:TE} {σ:St} {H:Hp} {Q:VK} (k:te σ H (fmK Q)):aYn te σ H Q:=k
theorem r_fmK {i:Nat} {H:Hp} {Q:VK} (hi:i < 1000) (k:∀ z:Str,z.length<=10->Q (.str z) H):fmK Q (.int i) H:=⟨i,rfl,hi,k⟩
end
theorem bA3 {X:Cx} {scope:Scope} {caps:List (Str×Addr)} {N:List Str} {C:Addr} {s0:Shared} {H0:Hp} {ex:List Addr} {o e:Expr} {es:List Expr} {to:TE} {t:TA} {name:Str} {apos cpos:Pos} {T id:String} {r:V->List V->Hp->VK->Prop}
  (pa:PlainAttrs T) (slot:Slot T name id) (hty:typeOf (.builtin id)=pure (.type "method_descriptor")) (hm:MtR (aA1 X scope caps N C s0 H0 ex) id r) (ho:PE (aA1 X scope caps N C s0 H0 ex) o to) (ha:PA (aA1 X scope caps N C s0 H0 ex) (e::es) t)
  (hbase:attributeBase o name (aA1 X scope caps N C s0 H0 ex).env (eval o (aA1 X scope caps N C s0 H0 ex).env)=eval o (aA1 X scope caps N C s0 H0 ex).env:=by rfl)
  (hfew:((backTo cpos (starEach (e::es) (aA1 X scope caps N C s0 H0 ex).env)).all (fun x=>!x.1)&&(backToKw cpos (keywordEach [] (aA1 X scope caps N C s0 H0 ex).env)).all (fun x=>x.1.isSome)
   && decide ((e::es).length+([]:List Keyword).length+(if ([]:List Keyword).isEmpty then 0 else 1) < 30))=true:=by rfl)
  (hline:(apos.endLine==cpos.line)=true:=by rfl) (hs:starEach (e::es) (aA1 X scope caps N C s0 H0 ex).env=(false,eval e (aA1 X scope caps N C s0 H0 ex).env)::starEach es (aA1 X scope caps N C s0 H0 ex).env:=by rfl)
  (hplain:(backTo cpos (starEach es (aA1 X scope caps N C s0 H0 ex).env)).any (·.1)=false:=by rfl) :
  PE (aA1 X scope caps N C s0 H0 ex) (.Call (.Attribute o name apos) (e::es) [] cpos) (tBM X.K T r to t):=aB4 pa slot hty hm ho ha hbase hfew hline hs hplain
section
variable {σ:St} {H:Hp} {D:aEx} {K:PySem.W.Frag}
end
end L2
namespace L2
open PySem PySem.Spec PyProof.Rows
inductive Wsh where
 | after (s u:Str) (q:Rat) | within (s u:Str) (q:Rat) | wit (s u:Str) | frm (s:Str) (q:Rat)
noncomputable def aDb (s:Str):Prop:=aBx s=true/\s.length<=100
noncomputable def SmR (q:Rat):Prop:=Sm 8000 q.num/\Sm 8000 (q.den:Int)
noncomputable def Wsh.ok:Wsh->Prop
 | .after s u q=>aDb s/\aDb u/\s≠u/\SmR q
 | .within s u q=>aDb s/\aDb u/\s≠u/\SmR q
 | .wit s u=>aDb s/\aDb u/\s≠u
 | .frm s q=>aDb s/\0<=q.num/\SmR q
theorem FrQ.den {H:Hp} {v:V} {q:Rat} (h:FrQ H v q):Den H (dFr q) v:=by
 obtain ⟨p,rfl,h⟩:=h
 exact den2 h
theorem aJc {β:Type} {R:Hp->V->β->Prop} {H:Hp} {f:β->Dt} (hR:∀ v b,R H v b->Den H (f b) v):∀ {ds:List β} {vs:List V},Paired (R H) vs ds->aMg H (ds.map f) vs
 | [],_,.nil=>rfl
 | d::ds,_,.cons h t=>⟨_,_,rfl,hR _ _ h,aJc hR t⟩
section
variable {H:Hp} {Q:VK} {l1 l2:Addr}
end
noncomputable def bef (i:Nat):Str:=([("":Str),"ab","abc.d","x.y.z"][i]?).getD ""
noncomputable def beh (i:Nat):Str:=([("":Str),"q",".r","qqqq"][i]?).getD ""
theorem nn_a {a b c:Int} (h1:0<=a) (h2:0<=b) (h3:0<=c):0<=(a * 2147483587+b) * 2147483543+c:=Int.add_nonneg (Int.mul_nonneg (Int.add_nonneg (Int.mul_nonneg h1 (by decide)) h2) (by decide)) h3
theorem nn_b {a c:Int} (h:0<=a):0<=a * 1000000000000000000+c % 1000000000000000000:=Int.add_nonneg (Int.mul_nonneg h (by decide)) (Int.emod_nonneg c (by decide))
end L2
namespace L2
open PySem PySem.Spec PyProof.Rows
noncomputable def rMulS:R2:=fun x y H Q=>∃ (z:Str) (n:Int),x=.str z/\y=.int n/\0<=n/\n<=1000/\z.length<=1000/\∀ u:Str,u.cps.toList=(List.replicate n.toNat z.cps.toList).flatten->Q (.str u) H
theorem aOr:∀ (l:List (Array Nat)) (a:Array Nat),(l.foldl (·++·) a).toList=a.toList++(l.map (·.toList)).flatten
 | [],a=>by simp
 | x::l,a=>by
  rw [List.foldl_cons,aOr l (a++x)]
  simp
theorem aWu {X:Cx}:OpR X (binaryOp .Mult) rMulS:=by
 intro pins s σ H x y v u Q I rx ry h
 obtain ⟨z,n,rfl,rfl,h0,h1,hz,q⟩:=h
 obtain ⟨t,rfl⟩:=rx
 obtain ⟨t',rfl⟩:=ry
 have hfit:z.length * n.toNat<=1000000:=Nat.le_trans (Nat.mul_le_mul hz (show n.toNat<=1000 by omega)) (by decide)
 refine PySem.P.mul_str ?_ (fun h2 _=>?_) (fun _ _=>?_) ?_
 ·rw [decide_eq_false (by omega),decide_eq_false (by omega)]
  rfl
 ·intro z2
  have e1:(2 ^ 63 - 1) / n ≥ (2 ^ 63 - 1) / 1000:=Int.le_ediv_of_mul_le (by omega) (by
   have:(2 ^ 63 - 1) / 1000 * n<=(2 ^ 63 - 1) / 1000 * 1000:=Int.mul_le_mul_of_nonneg_left h1 (by decide)
   exact Int.le_trans this (by decide))
  have:((2:Int) ^ 63 - 1) / 1000 > 1000:=by decide
  omega
 ·unfold Builtin.Str.tooLong
  rw [decide_eq_false_iff_not,sizeLine_eq]
  omega
 ·split
  ·refine ⟨by decide,.str Str.empty,H,I.tok _,⟨_,rfl⟩,q _ ?_⟩
   have:n.toNat=0:=by omega
   rw [this]
   rfl
  ·split
   ·rename_i h3 h4
    refine ⟨.str z,H,I,⟨_,rfl⟩,q _ ?_⟩
    rw [Bool.or_eq_true] at h4
    rcases h4 with h4 | h4
    ·have:n=1:=by simpa using h4
     subst this
     simp
    ·have hz0:z.cps.toList=[]:=by
      have:z.length=0:=by simpa using h4
      rw [aBt] at this
      exact List.eq_nil_of_length_eq_zero this
     rw [hz0]
     simp
   ·have e:(⟨(List.replicate n.toNat z.cps).foldl (·++·) #[]⟩:Str).cps.toList=(List.replicate n.toNat z.cps.toList).flatten:=by
     rw [aOr]
     simp
    refine ⟨?_,.str _,H,I.tok _,⟨_,rfl⟩,q _ e⟩
    rw [aBt,e,List.length_flatten,List.map_replicate,List.sum_replicate_nat,← aBt,sizeLine_eq]
    have:=Nat.mul_comm n.toNat z.length
    omega
noncomputable def aPv (z:Str):Prop:=∀ c∈z.cps.toList,97<=c/\c < 123
theorem aTq {z:Str} (h1:1<=z.length) (h2:z.length<=8) (h:aPv z):aA3 z=true:=by
 unfold aA3
 rw [decide_eq_true h1,decide_eq_true h2,Bool.true_and,Bool.true_and,List.all_eq_true]
 intro c hc
 rw [decide_eq_true (h c hc).1,decide_eq_true (h c hc).2]
 rfl
theorem aPv.app {x y:Str} (h:aPv x) (h':aPv y):aPv (x++y):=fun c hc=>by
 have e:(x++y).cps.toList=x.cps.toList++y.cps.toList:=by
  show (x.cps++y.cps).toList=_
  simp
 rw [e] at hc
 exact (List.mem_append.mp hc).elim (h c) (h' c)
theorem aPv.one {c:Nat} (h1:97<=c) (h2:c < 123):aPv ⟨#[c]⟩:=fun x hx=>by
 have:x=c:=by simpa using hx
 subst this
 exact ⟨h1,h2⟩
theorem sl4:∀ j:Nat,j < 4->(Txt.slice abc none (some (j:Int))).length=j/\aPv (Txt.slice abc none (some (j:Int))):=by
 intro j hj
 have:j=0∨j=1∨j=2∨j=3:=by omega
 unfold aPv
 rcases this with rfl | rfl | rfl | rfl <;> decide +kernel
theorem aV2 {u z:Str} {n:Nat} (e:u.cps.toList=(List.replicate n z.cps.toList).flatten) (hz:z.length=1) (h:aPv z):u.length=n/\aPv u:=by
 constructor
 ·rw [aBt,e,List.length_flatten,List.map_replicate,List.sum_replicate_nat,← aBt,hz,Nat.mul_one]
 ·intro c hc
  rw [e] at hc
  obtain ⟨l,hl,hc⟩:=List.mem_flatten.mp hc
  rw [List.eq_of_mem_replicate hl] at hc
  exact h c hc
inductive aFy where
 | row | star | ring
noncomputable def aFy.nm:aFy->Str
 | .row=>"row"
 | .star=>"star"
 | .ring=>"ring"
inductive aO5 where
 | run (a b:Str) (t:Rat) | path (k:aFy) (t:Rat) (ps:List Str)
noncomputable def aGv (H:Hp) (v:V):aO5->Prop
 | .run a b t=>∃ p u,v=.ref p/\H p=some (.tup [.str "run",.str a,.str b,u])/\FrQ H u t
 | .path k t ps=>∃ p u q,v=.ref p/\H p=some (.tup [.str k.nm,u,.ref q])/\FrQ H u t/\H q=some (.tup (ps.map V.str))
theorem aGv.tk {H H':Hp} {v:V} {r:aO5} (h:aGv H v r) (t:TK H H'):aGv H' v r:=by
 cases r with
 | run a b q=>obtain ⟨p,u,e,h,f⟩:=h; exact ⟨p,u,e,t _ _ h,f.tk t⟩
 | path k q ps=>obtain ⟨p,u,z,e,h,f,g⟩:=h; exact ⟨p,u,z,e,t _ _ h,f.tk t,t _ _ g⟩
noncomputable def aNo (q:Rat):Prop:=0 < q/\q.num<=999999999999/\q.den<=999999999999
noncomputable def okP:aO5->Prop
 | .run a b t=>aDb a/\aDb b/\aNo t
 | .path k t ps=>(∀ s∈ps,aDb s)/\aNo t/\2<=ps.length/\ps.length<=30/\(k=.ring->3<=ps.length)
noncomputable def aO5.kind:aO5->Str
 | .run _ _ _=>"run"
 | .path k _ _=>k.nm
theorem aGv.head {H:Hp} {v:V} {r:aO5} (h:aGv H v r):∃ p xs,v=.ref p/\H p=some (.tup (.str r.kind::xs)):=by
 cases r with
 | run a b t=>obtain ⟨p,u,e,h,_⟩:=h; exact ⟨p,_,e,h⟩
 | path k t ps=>obtain ⟨p,u,q,e,h,_⟩:=h; exact ⟨p,_,e,h⟩
theorem aO5.no_piece (r:aO5):r.kind≠"piece":=by
 cases r with
 | run a b t=>exact show ("run":Str)≠"piece" by decide +kernel
 | path k t ps =>
  show k.nm≠"piece"
  cases k <;> decide +kernel
section
open Sem (wp)
open AutoSeq1 (wpAny_loadPart')
variable {prog:Program} {w:World} {A:Around} {E:Value -> Shared -> Prop} {s:Shared}
end
section
variable {X:Cx} {pins:List (Addr×Obj)} {σ:St} {H:Hp} {s:Shared} {tg:Expr}
end
section
variable {te:TE} {Q:VK} {H:Hp} {σ:St} {caps:St} {K:PySem.W.Frag}
end
theorem aWp {X:Cx} {scope:Scope} {caps:List (Str×Addr)} {N:List Str} {C:Addr} {s0:Shared} {H0:Hp} {ex:List Addr} {es:List Expr} {k:Nat} {t:TGs} {n:Nat} {pos:Pos} (hc:(aA1 X scope caps N C s0 H0 ex).calm=true) (h:PGs (aA1 X scope caps N C s0 H0 ex) es t)
  (hn:(assignEach es (aA1 X scope caps N C s0 H0 ex).env).length=n:=by rfl) (hst:(assignEach es (aA1 X scope caps N C s0 H0 ex).env).findIdx? (·.1)=none:=by rfl):PG (aA1 X scope caps N C s0 H0 ex) (.Tuple es k pos) (gTup X.K n t):=aU6 hc h hn hst
section
variable {K:PySem.W.Frag} {H:Hp} {Q:VK} {p:Addr} {xs:List V}
end
theorem aSi {xs:List V} (n:Nat):aDs xs none (some (n:Int))=xs.take n:=by
 unfold aDs
 have e1:HT.sIx xs.length 0 none=0:=rfl
 have e2:HT.sIx xs.length xs.length (some (n:Int))=min n xs.length:=by
  unfold HT.sIx
  simp
  omega
 rw [e1,e2,List.drop_zero,Nat.sub_zero]
 rcases Nat.le_total n xs.length with h | h
 ·rw [Nat.min_eq_left h]
 ·rw [Nat.min_eq_right h,List.take_length,List.take_of_length_le h]
theorem aTe {c:TT} {tb:TS} {D:aEx} {σ:St} {H:Hp} (Pv:Nat->St->Hp->Prop) {m0:Nat} (h0:Pv m0 σ H)
  (hs:∀ m σ H,Pv m σ H->c σ H fun b H1=>if b=true then ∃ N:St->Hp->Prop,(∀ σ' H',N σ' H'->∃ m',m' < m/\Pv m' σ' H')/\tb { D with nx:=N,ct:=N,bk:=D.nx } σ H1 else D.nx σ H1):aP8 c tb D σ H:=⟨Pv,⟨_,h0⟩,hs⟩
theorem FrQ.of2 {H:Hp} {p:Addr} {f g:Int} (hg:0 < g) (hc:Int.gcd f g=1) (h:H p=some (.tup [.int f,.int g])):FrQ H (.ref p) (Rat.divInt f g):=by
 obtain ⟨e1,e2⟩:=aQt (t:=f) (b:=g) (f:=f) (g:=g) (by omega) hg hc rfl
 exact ⟨p,rfl,by rw [h,e1,e2]⟩
theorem aNo.of2 {f g:Int} (hf:0 < f) (hf':f<=999999999999) (hg:0 < g) (hg':g<=999999999999) (hc:Int.gcd f g=1):aNo (Rat.divInt f g):=by
 obtain ⟨e1,e2⟩:=aQt (t:=f) (b:=g) (f:=f) (g:=g) (by omega) hg hc rfl
 refine ⟨?_,by rw [e1]; exact hf',?_⟩
 ·have h1:0 < (Rat.divInt f g).num:=by rw [e1]; exact hf
  have:=Rat.num_nonneg.mp (Int.le_of_lt h1)
  exact Rat.lt_of_le_of_ne this fun z=>by rw [← z] at h1; exact absurd h1 (by decide)
 ·omega
noncomputable def bCa:aO5->Dt
 | .run a b t=>.tup [.str "run",.str a,.str b,dFr t]
 | .path k t ps=>.tup [.str k.nm,dFr t,.tup (ps.map Dt.str)]
theorem aJb {G:Hp}:∀ ys:List Str,aMg G (ys.map Dt.str) (ys.map V.str)
 | []=>rfl
 | y::r=>⟨_,_,rfl,rfl,aJb r⟩
theorem aGv.den {H:Hp} {v:V}:∀ {r:aO5},aGv H v r->Den H (bCa r) v
 | .run a b t,⟨p,u,e,h,f⟩=>⟨p,_,e,h,_,_,rfl,rfl,_,_,rfl,rfl,_,_,rfl,rfl,_,_,rfl,f.den,rfl⟩
 | .path k t ps,⟨p,u,z,e,h,f,g⟩=>⟨p,_,e,h,_,_,rfl,rfl,_,_,rfl,f.den,_,_,rfl,⟨z,_,rfl,g,aJb ps⟩,rfl⟩
theorem aL7:∀ ps:List Str,aGa (ps.map Dt.str)<=1
 | []=>by simp [aGa]
 | p::r=>by
  have:=aL7 r
  rw [List.map_cons]
  simp only [aGa,dep]
  omega
theorem aXs:∀ r:aO5,dep (bCa r)<=5
 | .run _ _ _=>by simp [dep,aGa,bCa,dFr]
 | .path _ _ ps=>by
  have:=aL7 ps
  simp only [dep,aGa,bCa,dFr]
  omega
end L2
namespace L2
open PySem PySem.Spec PyProof.Rows
inductive aGt where
 | plain (r:aO5) | put (nm cl:Str) (as:List Str)
noncomputable abbrev aBf:=Str×List Str×List aGt
inductive aCp where
 | one (r:aGt) | piece (p:aBf)
noncomputable def aBp (H:Hp) (v:V):aGt->Prop
 | .plain r=>aGv H v r
 | .put nm cl as=>∃ p q,v=.ref p/\H p=some (.tup [.str "put",.str nm,.str cl,.ref q])/\H q=some (.tup (as.map V.str))
noncomputable def aFz (H:Hp) (v:V) (x:aBf):Prop:=∃ p q z xs,v=.ref p/\H p=some (.tup [.str "piece",.str x.1,.ref q,.ref z])/\H q=some (.tup (x.2.1.map V.str))/\H z=some (.tup xs)/\Paired (aBp H) xs x.2.2
noncomputable def aEw (H:Hp) (v:V):aCp->Prop
 | .one r=>aBp H v r
 | .piece p=>aFz H v p
theorem aBp.tk {H H':Hp} {v:V} {r:aGt} (h:aBp H v r) (t:TK H H'):aBp H' v r:=by
 cases r with
 | plain r=>exact aGv.tk h t
 | put nm cl as=>obtain ⟨p,q,e,h1,h2⟩:=h; exact ⟨p,q,e,t _ _ h1,t _ _ h2⟩
theorem aFz.tk {H H':Hp} {v:V} {r:aBf} (h:aFz H v r) (t:TK H H'):aFz H' v r:=by
 obtain ⟨p,q,z,xs,e,h1,h2,h3,h4⟩:=h
 exact ⟨p,q,z,xs,e,t _ _ h1,t _ _ h2,t _ _ h3,Pd.imp h4 fun _ _ f=>f.tk t⟩
theorem aEw.tk {H H':Hp} {v:V} {r:aCp} (h:aEw H v r) (t:TK H H'):aEw H' v r:=by
 cases r with
 | one r=>exact aBp.tk h t
 | piece p=>exact aFz.tk h t
noncomputable def WfT (E:List aBf):aGt->Prop
 | .plain r=>okP r
 | .put nm cl as=>aA3 cl=true/\(∀ s∈as,aDb s)/\(1<=as.length/\as.length<=8)/\∃ p∈E,p.1=nm/\p.2.1.length=as.length
noncomputable def WfP (E:List aBf) (p:aBf):Prop:=(∀ r∈p.2.2,WfT E r)/\p.2.2≠[]/\p.2.2.length<=60/\p.2.1.Nodup/\(1<=p.2.1.length/\p.2.1.length<=8/\∀ s∈p.1::p.2.1,aA3 s=true)/\∀ q∈E,q.1≠p.1
noncomputable def WfE:List aBf->Prop
 | []=>True
 | p::E=>WfP E p/\WfE E
theorem WfE.at {E:List aBf} (h:WfE E) {p:aBf} (hp:p∈E):p.2.2≠[]/\p.2.2.length<=60/\p.2.1.Nodup/\(1<=p.2.1.length/\p.2.1.length<=8/\∀ s∈p.1::p.2.1,aA3 s=true):=by
 induction E with
 | nil=>cases hp
 | cons q E ih =>
  obtain ⟨h1,h2⟩:=h
  rcases List.mem_cons.mp hp with rfl | hp
  ·exact ⟨h1.2.1,h1.2.2.1,h1.2.2.2.1,h1.2.2.2.2.1⟩
  ·exact ih h2 hp
theorem aVw {x y:Str} (h:x.cps.toList=y.cps.toList):x=y:=by
 obtain ⟨a⟩:=x
 obtain ⟨b⟩:=y
 exact congrArg Str.mk (Array.toList_inj.mp h)
noncomputable def aTz (D:Nat) (s:Str):Prop:=(∀ p∈Txt.split s ⟨#[46]⟩,aA3 p=true)/\(Txt.split s ⟨#[46]⟩).length<=D+1/\s.length<=100+9 * D
noncomputable def dots (s:Str):Nat:=(Txt.split s ⟨#[46]⟩).length - 1
theorem aTz.post {s:Str} (h:aDb s):aTz 3 s:=by
 have:=h.1
 rw [aF4,Bool.and_eq_true,decide_eq_true_iff,List.all_eq_true] at this
 exact ⟨this.2,this.1,by have:=h.2; omega⟩
theorem aTz.part {s:Str} (h:aA3 s=true):aDb s:=by
 obtain ⟨h1,h2,h3⟩:=aC2 h
 refine ⟨?_,by omega⟩
 have e:=aG2 [] s 1 (fun p hp=>by rw [List.mem_singleton.mp hp]; exact h3)
 rw [aL4] at e
 show pst _ 1 0=true
 rw [e]
 simp [h]
noncomputable def badN (r:aUk):Prop:=r.1=r.2.1∨3 < dots r.1∨3 < dots r.2.1
noncomputable instance (r:aUk):Decidable (badN r):=inferInstanceAs (Decidable (_∨_∨_))
noncomputable def WfG:List aBf->List aCp->Prop
 | _,[]=>True
 | E,.one r::gs=>WfT E r/\WfG E gs
 | E,.piece p::gs=>WfP E p/\WfG (p::E) gs
noncomputable def aFv:List aBf->List aCp->List aBf
 | E,[]=>E
 | E,.one _::gs=>aFv E gs
 | E,.piece p::gs=>aFv (p::E) gs
theorem aFu:∀ (gs:List aCp) (E:List aBf) (g:aCp),aFv E (gs++[g])=aFv (aFv E gs) [g]
 | [],_,_=>rfl
 | .one _::gs,E,g=>aFu gs E g
 | .piece p::gs,E,g=>aFu gs (p::E) g
theorem aGw:∀ (gs:List aCp) (E:List aBf) (g:aCp),WfG E (gs++[g]) ↔ WfG E gs/\WfG (aFv E gs) [g]
 | [],E,g=>⟨fun h=>⟨trivial,h⟩,fun h=>h.2⟩
 | .one r::gs,E,g=>by
  show WfT E r/\WfG E (gs++[g]) ↔ (WfT E r/\WfG E gs)/\WfG (aFv E gs) [g]
  rw [aGw gs E g,and_assoc]
 | .piece p::gs,E,g=>by
  show WfP E p/\WfG (p::E) (gs++[g]) ↔ (WfP E p/\WfG (p::E) gs)/\WfG (aFv (p::E) gs) [g]
  rw [aGw gs (p::E) g,and_assoc]
theorem aWl {kvs:List (Key×V)} {k:Key} {v:V}:(aEu kvs k v).length<=kvs.length+1:=by
 unfold aEu
 split <;> simp
noncomputable def GsQ (H:Hp) (l:Addr) (gs:List aCp):Prop:=∃ xs,H l=some (.lst xs)/\Paired (aEw H) xs gs
theorem GsQ.sm {H G:Hp} {l:Addr} {gs:List aCp} (h:GsQ H l gs) (s:aAm H G):GsQ G l gs:=let ⟨xs,a,b⟩:=h; ⟨xs,s _ _ a,Pd.imp b fun _ _ f=>f.tk s.tk⟩
noncomputable def lnN:List aCp->Nat
 | []=>0
 | .one _::gs=>lnN gs+1
 | .piece p::gs=>lnN gs+p.2.2.length+2
theorem aKf:∀ (gs:List aCp) (g:aCp),lnN (gs++[g])=lnN gs+lnN [g]
 | [],g=>by show lnN [g]=0+_; omega
 | .one _::gs,g=>by show lnN (gs++[g])+1=lnN gs+1+_; rw [aKf gs g]; omega
 | .piece p::gs,g=>by show lnN (gs++[g])+p.2.2.length+2=lnN gs+p.2.2.length+2+_; rw [aKf gs g]; omega
theorem aRp:∀ gs:List aCp,gs.length<=lnN gs
 | []=>Nat.le_refl _
 | .one _::gs=>by have:=aRp gs; show gs.length+1<=lnN gs+1; omega
 | .piece p::gs=>by have:=aRp gs; show gs.length+1<=lnN gs+p.2.2.length+2; omega
structure aSy (gs:List aCp):Prop where
 wf:WfG [] gs
 few:gs.length<=60
 ln:lnN gs<=60
theorem aBp.head {H:Hp} {v:V} {r:aGt} (h:aBp H v r):∃ p k xs,v=.ref p/\H p=some (.tup (.str k::xs))/\k≠"piece":=by
 cases r with
 | plain r =>
  obtain ⟨p,xs,e,h1⟩:=aGv.head h
  exact ⟨p,_,xs,e,h1,r.no_piece⟩
 | put nm cl as =>
  obtain ⟨p,q,e,h1,_⟩:=h
  exact ⟨p,_,_,e,h1,by decide +kernel⟩
theorem aEl {α:Type} {gs:List α} {i:Nat} {g:α} (h:gs[i]?=some g):gs.drop i=g::gs.drop (i+1):=by
 obtain ⟨hi,e⟩:=List.getElem?_eq_some_iff.mp h
 rw [List.drop_eq_getElem_cons hi,e]
noncomputable def aNl:aGt->Dt
 | .plain r=>bCa r
 | .put nm cl as=>.tup [.str "put",.str nm,.str cl,.tup (as.map Dt.str)]
noncomputable def aSh:aCp->Dt
 | .one r=>aNl r
 | .piece p=>.tup [.str "piece",.str p.1,.tup (p.2.1.map Dt.str),.tup (p.2.2.map aNl)]
theorem aBp.den {H:Hp} {v:V}:∀ {r:aGt},aBp H v r->Den H (aNl r) v
 | .plain r,h=>aGv.den h
 | .put nm cl as,⟨p,q,e,h,g⟩=>⟨p,_,e,h,_,_,rfl,rfl,_,_,rfl,rfl,_,_,rfl,rfl,_,_,rfl,⟨q,_,rfl,g,aJb as⟩,rfl⟩
theorem aEw.den {H:Hp} {v:V}:∀ {r:aCp},aEw H v r->Den H (aSh r) v
 | .one r,h=>aBp.den h
 | .piece x,⟨p,q,z,xs,e,h,g,hz,pr⟩=>⟨p,_,e,h,_,_,rfl,rfl,_,_,rfl,rfl,_,_,rfl,⟨q,_,rfl,g,aJb _⟩,_,_,rfl,⟨z,_,rfl,hz,aJc (fun v b h=>aBp.den h) pr⟩,rfl⟩
theorem aG7:∀ r:aGt,dep (aNl r)<=5
 | .plain r=>aXs r
 | .put _ _ as=>by
  have:=aL7 as
  simp only [dep,aGa,aNl]
  omega
theorem aJa {α:Type} {f:α->Dt} {B:Nat} (h:∀ b,dep (f b)<=B):∀ l:List α,aGa (l.map f)<=B
 | []=>by simp [aGa]
 | a::l=>by
  have h1:=h a
  have h2:=aJa h l
  rw [List.map_cons]
  simp only [aGa]
  omega
theorem aOw:∀ r:aCp,dep (aSh r)<=10
 | .one r=>Nat.le_trans (aG7 r) (by decide)
 | .piece p=>by
  have h1:=aL7 p.2.1
  have h2:=aJa aG7 p.2.2
  simp only [dep,aGa,aSh]
  omega
theorem aSd {H:Hp} {l:Addr} {gs:List aCp} (h:GsQ H l gs):Den H (.lst (gs.map aSh)) (.ref l):=let ⟨xs,a,b⟩:=h; ⟨l,xs,rfl,a,aJc (fun _ _ h=>aEw.den h) b⟩
theorem e_gs {H:Hp} {Q:VK} {l1 l2:Addr} {gs:List aCp} (h1:GsQ H l1 gs) (h2:GsQ H l2 gs) (k:Q (.bl true) H):aTi (.ref l1) (.ref l2) H Q:=by
 refine aUf (aSd h1) (aSd h2) (Nat.le_trans (aJa aOw gs) (by decide)) ?_
 obtain ⟨xs,_,b⟩:=h1
 have d:=aJc (fun _ _ h=>aEw.den h) b
 rw [aMg.same_eq _ _ d d]
 exact k
theorem e_gs0 {H:Hp} {Q:VK} {l1 l2:Addr} {gs:List aCp} (h1:GsQ H l1 gs) (h2:H l2=some (.lst [])) (k:Q (.bl gs.isEmpty) H):aTi (.ref l1) (.ref l2) H Q:=by
 refine aUf (aSd h1) (ds:=gs.map aSh) (es:=[]) ⟨l2,_,rfl,h2,rfl⟩ (Nat.le_trans (aJa aOw gs) (by decide)) ?_
 cases gs <;> exact k
theorem bBf {H:Hp} {Q:VK} {l1 l2:Addr} {ys:List V} {rs:List aGt} (h1:H l1=some (.lst ys)) (pr:Paired (aBp H) ys rs) (h2:H l2=some (.lst [])) (k:Q (.bl (!rs.isEmpty)) H):aWj (.ref l1) (.ref l2) H Q:=by
 refine n_lst (ds:=rs.map aNl) (es:=[]) ⟨l1,_,rfl,h1,aJc (fun _ _ h=>aBp.den h) pr⟩ ⟨l2,_,rfl,h2,rfl⟩ (Nat.le_trans (aJa aG7 rs) (by decide)) ?_
 cases rs <;> exact k
theorem e_rs0 {H:Hp} {Q:VK} {l1 l2:Addr} {ys:List V} {rs:List aGt} (h1:H l1=some (.lst ys)) (pr:Paired (aBp H) ys rs) (h2:H l2=some (.lst [])) (k:Q (.bl rs.isEmpty) H):aTi (.ref l1) (.ref l2) H Q:=by
 refine aUf (ds:=rs.map aNl) (es:=[]) ⟨l1,_,rfl,h1,aJc (fun _ _ h=>aBp.den h) pr⟩ ⟨l2,_,rfl,h2,rfl⟩ (Nat.le_trans (aJa aG7 rs) (by decide)) ?_
 cases rs <;> exact k
noncomputable def stK (lf lk:Addr) (vi:V) (u:Int):List (Key×V):=[(Sum.inr "found",.ref lf),(Sum.inr "known",.ref lk),(Sum.inr "inside",vi),(Sum.inr "used",.int u)]
section
variable {lf lk:Addr} {vi v:V} {u w:Int}
theorem aEp:aDc (stK lf lk vi u) (Sum.inr "found")=some (.ref lf):=by with_unfolding_all rfl
theorem aGy:aDc (stK lf lk vi u) (Sum.inr "known")=some (.ref lk):=by with_unfolding_all rfl
theorem aD8:aDc (stK lf lk vi u) (Sum.inr "inside")=some vi:=by with_unfolding_all rfl
theorem aG9:aDc (stK lf lk vi u) (Sum.inr "used")=some (.int u):=by with_unfolding_all rfl
theorem aUr:aEu (stK lf lk vi u) (Sum.inr "inside") v=stK lf lk v u:=by with_unfolding_all rfl
theorem aNu:aEu (stK lf lk vi u) (Sum.inr "used") (.int w)=stK lf lk vi w:=by with_unfolding_all rfl
end
noncomputable def KnQ (H:Hp) (lk:Addr) (E:List aBf):Prop:=∃ ks,H lk=some (.lst ks)/\Paired (fun v (p:aBf)=>∃ a,v=V.ref a/\H a=some (.tup [.str p.1,.int (p.2.1.length:Int)])) ks E.reverse
theorem KnQ.sm {H G:Hp} {l:Addr} {E:List aBf} (h:KnQ H l E) (s:aAm H G):KnQ G l E:=let ⟨ks,a,b⟩:=h; ⟨ks,s _ _ a,Pd.imp b fun _ _ ⟨x,e,f⟩=>⟨x,e,s _ _ f⟩⟩
structure aX3 (H0 H:Hp) (d lf lk:Addr) (U:List Str) (E:List aBf) (vi:V) (x:aBf):Prop where
 at_:∃ li q ls ys,vi=.ref li/\H li=some (.lst [.str x.1,.ref q,.ref ls])/\H q=some (.tup (x.2.1.map V.str))/\H ls=some (.lst ys)/\Paired (aBp H) ys x.2.2/\H0 li=none/\H0 ls=none/\li≠lf/\li≠lk/\li≠ls/\ls≠lf/\ls≠lk
 nm:x.1∈U
 nw:∀ q∈E,q.1≠x.1
 nd:x.2.1.Nodup
 le:1<=x.2.1.length/\x.2.1.length<=8
 wf:∀ r∈x.2.2,WfT E r
 pb:∀ s∈x.1::x.2.1,aA3 s=true
noncomputable def InsQ (H0 H:Hp) (d lf lk:Addr) (U:List Str) (E:List aBf) (vi:V):Option aBf->Prop
 | none=>vi=.non
 | some x=>aX3 H0 H d lf lk U E vi x
noncomputable def insN:Option aBf->Nat
 | none=>0
 | some x=>x.2.2.length+1
structure StI (H0 H:Hp) (d lf lk:Addr) (U:List Str) (gs:List aCp) (ins:Option aBf) (n:Nat):Prop where
 st:∃ vi u,H d=some (.dK (stK lf lk vi u))/\InsQ H0 H d lf lk U (aFv [] gs) vi ins
 ne:lf≠lk
 fr:H0 d=none/\H0 lf=none/\H0 lk=none
 gq:GsQ H lf gs
 kq:KnQ H lk (aFv [] gs)
 wf:WfG [] gs
 nm:∀ p∈aFv [] gs,p.1∈U
 le:lnN gs+insN ins<=n
theorem aP1:∀ {gs:List aCp} {E:List aBf},WfE E->WfG E gs->WfE (aFv E gs)
 | [],_,h,_=>h
 | .one _::gs,_,h,w=>aP1 (gs:=gs) h w.2
 | .piece p::gs,_,h,w=>aP1 (gs:=gs) (E:=p::_) ⟨w.1,h⟩ w.2
theorem aVf:∀ {E:List aBf},WfE E->(E.map (·.1)).Nodup
 | [],_=>List.nodup_nil
 | p::E,h=>by
  rw [List.map_cons,List.nodup_cons]
  refine ⟨fun z=>?_,aVf h.2⟩
  obtain ⟨q,hq,e⟩:=List.mem_map.mp z
  exact h.1.2.2.2.2.2 q hq e
theorem env8 {U:List Str} (hU:U.length=8) {E:List aBf} (h:WfE E) (hn:∀ p∈E,p.1∈U):E.length<=8:=by
 have:=aLr (aVf h) (fun x hx=>by
  obtain ⟨p,hp,rfl⟩:=List.mem_map.mp hx
  exact hn p hp:∀ x∈E.map (·.1),x∈U)
 rw [List.length_map,hU] at this
 exact this
theorem StI.built {H0 H:Hp} {d lf lk:Addr} {U:List Str} {gs:List aCp} {ins:Option aBf} {n:Nat} (h:StI H0 H d lf lk U gs ins n) (hU:U.length=8) (hn:n<=60):aSy gs :=
 ⟨h.wf,by have:=h.le; have:=aRp gs; omega,by have:=h.le; omega⟩
theorem StI.up {H0 H:Hp} {d lf lk:Addr} {U:List Str} {gs:List aCp} {ins:Option aBf} {n m:Nat} (h:StI H0 H d lf lk U gs ins n) (l:n<=m):StI H0 H d lf lk U gs ins m:=⟨h.st,h.ne,h.fr,h.gq,h.kq,h.wf,h.nm,Nat.le_trans h.le l⟩
theorem aX3.sm {H0 H G:Hp} {d lf lk:Addr} {U:List Str} {E:List aBf} {vi:V} {x:aBf} (h:aX3 H0 H d lf lk U E vi x) (s:aAm H G):aX3 H0 G d lf lk U E vi x:=by
 obtain ⟨⟨li,q,ls,ys,e,h1,h2,h3,h4,h5⟩,b,c,d',e',f,pb⟩:=h
 exact ⟨⟨li,q,ls,ys,e,s _ _ h1,s _ _ h2,s _ _ h3,Pd.imp h4 fun _ _ f=>f.tk s.tk,h5⟩,b,c,d',e',f,pb⟩
theorem StI.sm {H0 H G:Hp} {d lf lk:Addr} {U:List Str} {gs:List aCp} {ins:Option aBf} {n:Nat} (h:StI H0 H d lf lk U gs ins n) (s:aAm H G):StI H0 G d lf lk U gs ins n:=by
 obtain ⟨⟨vi,u,hd,hi⟩,h2,h3,h4,h5,h6,h7,h8⟩:=h
 refine ⟨⟨vi,u,s _ _ hd,?_⟩,h2,h3,h4.sm s,h5.sm s,h6,h7,h8⟩
 cases ins with
 | none=>exact hi
 | some x=>exact aX3.sm hi s
noncomputable def aT1 (bef beh:Str) (x:Int) (i:Nat):Str:=bef++⟨#[97+((x+3 * (i:Int)) % 26).toNat]⟩++beh
theorem bBe {bef beh:Str} {x:Int} {i j:Nat} (hi:i < 8) (hj:j < 8) (h:aT1 bef beh x i=aT1 bef beh x j):i=j:=by
 have e:=congrArg (fun s:Str=>s.cps.toList) h
 have l:∀ k:Nat,(aT1 bef beh x k).cps.toList=bef.cps.toList++((97+((x+3 * (k:Int)) % 26).toNat)::beh.cps.toList):=fun k=>by
  show ((bef.cps++#[97+((x+3 * (k:Int)) % 26).toNat])++beh.cps).toList=_
  simp
 simp only [l] at e
 have e2:=(List.cons.inj (List.append_cancel_left e)).1
 omega
theorem nm_nd (bef beh:Str) (x:Int):((List.range 8).map (aT1 bef beh x)).Nodup:=by
 refine List.pairwise_map.mpr (List.nodup_range.imp_of_mem fun {a b} ha hb hab e=>hab (bBe (List.mem_range.mp ha) (List.mem_range.mp hb) e))
theorem aWo {U:List Str} (hU:U.length=8) (nd:U.Nodup) (x:Int) {m:Nat} (hm:m<=8) {ps:List Str} (hl:ps.length=m) (h:∀ j,j < m->∃ s,ps[j]?=some s/\U[((x+(j:Int)) % 8).toNat]?=some s):ps.Nodup:=by
 rw [List.nodup_iff_pairwise_ne,List.pairwise_iff_getElem]
 intro i j hi hj hij e
 obtain ⟨s,h1,h2⟩:=h i (by omega)
 obtain ⟨t,h3,h4⟩:=h j (by omega)
 rw [List.getElem?_eq_getElem hi] at h1
 rw [List.getElem?_eq_getElem hj] at h3
 cases h1
 cases h3
 rw [e] at h2
 have hi8:((x+(i:Int)) % 8).toNat < U.length:=by omega
 have hj8:((x+(j:Int)) % 8).toNat < U.length:=by omega
 rw [List.getElem?_eq_getElem hi8] at h2
 rw [List.getElem?_eq_getElem hj8] at h4
 have e2:U[((x+(i:Int)) % 8).toNat]=U[((x+(j:Int)) % 8).toNat]:=(Option.some.inj h2).trans (Option.some.inj h4).symm
 have pw:=List.pairwise_iff_getElem.mp nd
 rcases Nat.lt_trichotomy ((x+(i:Int)) % 8).toNat ((x+(j:Int)) % 8).toNat with z | z | z
 ·exact pw _ _ hi8 hj8 z e2
 ·omega
 ·exact pw _ _ hj8 hi8 z e2.symm
theorem aNg:∀ (gs:List aCp) (E:List aBf),(aFv E gs).length<=E.length+gs.length
 | [],_=>Nat.le_refl _
 | .one _::gs,E=>Nat.le_trans (aNg gs E) (by rw [List.length_cons]; omega)
 | .piece p::gs,E=>Nat.le_trans (aNg gs (p::E)) (by rw [List.length_cons,List.length_cons]; omega)
end L2
namespace L2
open PySem PySem.Spec PyProof.Rows
section
open Sem (wp)
variable {prog:Program} {w:World} {A:Around} {E:Value -> Shared -> Prop} {s:Shared} {z TI TO i1 i2 l1 l2:Addr} {k:Nat} {xs ys:Array Value}
variable {K:Type} [DecidableEq K] {knd:KeyKind prog w K}
end
end L2
namespace L2
open PySem PySem.Spec PyProof.Rows
section
open Sem (wp)
variable {prog:Program} {w:World} {A:Around} {E:Value -> Shared -> Prop}
theorem bB7 {it t:Addr} {xs:Array Value} (hne:t≠it):∀ (n i:Nat) (s:Shared) (Q:List Value->Shared->Prop),s.heap.IsListIter it t i->s.heap.IsList t xs->i+n<=xs.size ->
  (∀ h',h'.IsListIter it t (i+n)->h'.IsList t xs->(∀ b o,b≠it->s.heap.get? b=some o->h'.get? b=some o)->Q ((xs.toList.drop i).take n) { s with heap:=h' })->wpAny (model prog w) A (draw (.ref it) n) Q E s
 | 0,i,s,Q,g,hl,_,q=>wpAny_pure (by simpa using q s.heap g hl fun _ _ _ e=>e)
 | n+1,i,s,Q,g,hl,le,q=>by
  have lt:i < xs.size:=by omega
  show wpAny _ _ (pyNext (.ref it) >>= _) Q E s
  refine wpAny_bind (wpAny_pyNext_list_item g hl (x:=xs[i]) (by simp [lt]) fun h1 g1 c1=>?_)
  refine wpAny_bind (wpAny_holding (bB7 hne n (i+1) _ _ g1 (hl.extBut c1.extBut hne) (by omega) fun h2 g2 l2 c2=>wpAny_pure ?_))
  have e:xs.toList.drop i=xs[i]::xs.toList.drop (i+1):=by simp [List.drop_eq_getElem_cons,lt]
  have:=q h2 (by rw [show i+(n+1)=i+1+n by omega]; exact g2) l2 fun b o hb e=>c2 b o hb (c1.extBut b o hb e)
  rw [e,List.take_succ_cons] at this
  exact this
theorem aVt {s:Shared} {t:Addr} {xs:Array Value} {targets:List (Bool×(Value->Sem Unit))} {Q:Unit->Shared->Prop} (hh:A.handled=none) (hl:s.heap.IsList t xs) (hn:targets.length=xs.size) (hs:targets.findIdx? (·.1)=none)
  (q:∀ h',(∀ b o,s.heap.get? b=some o->h'.get? b=some o)->wpAny (model prog w) A (assignInOrder (targets.map (·.2)) xs.toList) Q E { s with heap:=h' }):wpAny (model prog w) A (unpack (.ref t) targets) Q E s:=by
 have lt:t < s.heap.objs.size:=by obtain ⟨o,e,_⟩:=hl; exact Heap.lt_size e
 unfold unpack
 rw [hn,hs]
 refine wpAny_bind (wpAny_holding ?_)
 unfold unpackItems
 refine wpAny_bind ?_
 unfold notIterableAtAll
 refine wpAny_bind (wpAny_specialOf hl.typeIs F.slot_list_iter.lookup (wpAny_pure ?_))
 simp only [Bool.false_eq_true,if_false]
 refine wpAny_bind (wpAny_holding (wpAny_pyIter_list hl ?_))
 refine wpAny_bind (wpAny_holding (bB7 (Nat.ne_of_lt lt) xs.size 0 _ _ ⟨_,Heap.get?_push_size _ rfl,rfl,rfl⟩ (hl.at fun o e=>Heap.get?_push_of_some _ e) (by omega) fun h1 g1 l1 c1=>?_))
 rw [show List.take xs.size (List.drop 0 xs.toList)=xs.toList by rw [List.drop_zero]; exact List.take_of_length_le (by simp),if_neg (by simp)]
 refine wpAny_bind (wpAny_holding (wpAny_pyNext_list_end hh g1 l1 (by simp) fun h2 c2=>?_))
 simp only [Option.isSome_none,Bool.false_eq_true,if_false]
 have nb:∀ {b:Addr} {o:Obj},s.heap.get? b=some o->b≠s.heap.objs.size:=fun e=>Nat.ne_of_lt (Heap.lt_size e)
 exact wpAny_pure (q h2 fun b o e=>c2 b o (nb e) (c1 b o (nb e) (Heap.get?_push_of_some _ e)))
end
section
variable {X:Cx}
noncomputable def gLst (K:PySem.W.Frag) (n:Nat) (t:TGs):TG:=fun v σ H Q=>∃ a xs,v=.ref a/\SqL K H a xs/\xs.length=n/\t xs σ H Q
theorem bAx {es:List Expr} {k:Nat} {t:TGs} {n:Nat} {pos:Pos} (hc:X.calm=true) (h:PGs X es t)
  (hn:(assignEach es X.env).length=n:=by rfl) (hst:(assignEach es X.env).findIdx? (·.1)=none:=by rfl):PG X (.Tuple es k pos) (gLst X.K n t):=by
 intro pins s σ H v u Q I r hw
 obtain ⟨a,xs,e1,hq,hl,hw⟩:=hw
 subst e1
 cases r
 obtain ⟨its,rv,ht,hz⟩:=I.list hq
 rw [assign_Tuple]
 refine wpAny_bind (wpAny_standAt (aVt (I.ok.hd hc) ht.isList (by simp [hn,← hl,rv.length]) hst fun h' hx=>?_))
 exact h pins _ σ H xs _ Q (I.kept (t':=s.toks) fun b o e=>hx b o e) (by simpa using rv) hw
theorem aZ1 {K:PySem.W.Frag} {n:Nat} {t:TGs} {a:Addr} {xs:List V} {σ:St} {H:Hp} {Q:St->Hp->Prop} (h:H a=some (.lst xs)) (hl:xs.length=n) (k:t xs σ H Q):gLst K n t (.ref a) σ H Q:=⟨a,xs,rfl,SqL.of h,hl,k⟩
noncomputable def bAl:V->List V->Hp->VK->Prop:=fun x vs H Q=>∃ (z:Str) (l:Addr) (ys:List Str),x=.str z/\vs=[.ref l]/\H l=some (.tup (ys.map V.str))/\(ys.map (·.length)).sum+ys.length * z.length<=16777216/\Q (.str (Str.join z ys)) H
theorem aD3:MtR X "str.join" bAl:=by
 intro pins s σ H x vs v us Q I rx rv h
 obtain ⟨z,l,ys,rfl,rfl,hl,hs,q⟩:=h
 obtain ⟨t,rfl⟩:=rx
 obtain ⟨u,rfl,ru⟩:=rv.one
 cases ru
 obtain ⟨_,its,r,tp⟩:=I.hok l _ hl
 refine join_tuple tp (by simpa using aFa r) hs fun t' k=>?_
 have e1:Txt.join z ys=Str.join z ys:=StrLaws.glued_eq_join z ys
 rw [e1]
 exact ⟨.str _,H,I.tok _,⟨_,rfl⟩,q⟩
noncomputable def rStrI:List V->Hp->VK->Prop:=fun vs H Q=>∃ i:Int,vs=[.int i]/\i.natAbs < 10 ^ 18/\Q (.str (Str.ofString (toString i))) H
theorem aSs:aDm X (.type "str") rStrI:=by
 intro pins s σ H vs us Q I r h
 obtain ⟨i,rfl,hi,q⟩:=h
 obtain ⟨u,rfl,ru⟩:=r.one
 obtain ⟨t,rfl⟩:=ru
 refine P.str_of_int ?_ ⟨.str _,H,I.tok _,⟨_,rfl⟩,q⟩
 by_cases e:i.natAbs=0
 ·rw [e]; decide
 ·have:i.natAbs.log2 < 60:=(Nat.log2_lt e).mpr (Nat.lt_trans hi (by decide))
  omega
noncomputable def tJx:List TE->Str->TE
 | [],acc,_,H,Q=>Q (.str acc) H
 | t::r,acc,σ,H,Q=>t σ H fun x H1=>∃ y:Str,x=.str y/\y.length<=200000/\tJx r (acc++y) σ H1 Q
theorem aL3 {pins:List (Addr×Obj)} {σ:St} {Q:VK}:∀ {vs:List Expr} {ts:List TE} (_:PJs X vs ts) (n:Nat) (acc:Str) (s:Shared) (H:Hp),acc.length<=200000 * n->ts.length+n<=60->Inv X pins σ H s->tJx ts acc σ H Q ->
  Joins (model X.prog X.w) X.A X.xe (evalEach vs X.env) acc (fun out s₁=>out.length<=sizeLine/\EP X pins σ Q (.str out s₁.toks) { s₁ with toks:=s₁.toks+1 }) s
 | _,_,.nil,n,acc,s,H,ha,hn,I,h=>⟨by rw [sizeLine_eq]; omega,.str acc,H,I.tok _,⟨_,rfl⟩,h⟩
 | v::vs,t::ts,.cons hp r,n,acc,s,H,ha,hn,I,h=>by
  show wpAny _ _ (eval v X.env) _ _ s
  rw [List.length_cons] at hn
  refine thn (hp pins s σ H _ I h) fun u s1 ⟨x,H1,I1,r1,y,e1,hy,q⟩=>?_
  subst e1
  obtain ⟨tk,rfl⟩:=r1
  have hl:=aOn acc y
  exact ⟨y,tk,rfl,by rw [hl,sizeLine_eq]; omega,aL3 r (n+1) (acc++y) s1 H1 (by omega) (by omega) I1 q⟩
theorem bAz {v1 v2:Expr} {aDj:List Expr} {ts:List TE} {pos:Pos} (h:PJs X (v1::v2::aDj) ts) (hn:ts.length<=50):PE X (.JoinedStr (v1::v2::aDj) pos) (tJx ts Str.empty):=by
 intro pins s σ H Q I hq
 exact wpAny_JoinedStr (aL3 h 0 Str.empty s H (Nat.le_refl _) (by omega) I hq)
noncomputable def aYm (te:TE):TE:=fun σ H Q=>te σ H fun x H1=>∃ y:Str,x=.str y/\y.length<=200000/\Q (.str y) H1
theorem bA2 {e:Expr} {te:TE} {pos:Pos} (he:PE X e te):PE X (.FormattedValue e (-1) none pos) (aYm te):=by
 intro pins s σ H Q I h
 refine wpAny_FormattedValue_plain (thn (he pins s σ H _ I h) fun v s1 ⟨x,H1,I1,r1,y,e1,hy,q⟩=>?_)
 subst e1
 obtain ⟨t,rfl⟩:=r1
 exact wpAny_formatField_str ⟨.str _,H1,I1,⟨_,rfl⟩,q⟩ ⟨.str _,H1,I1.tok _,⟨_,rfl⟩,q⟩ (by rw [sizeLine_eq]; omega)
theorem r_jx0 {σ:St} {H:Hp} {Q:VK} {acc:Str} (k:Q (.str acc) H):tJx [] acc σ H Q:=k
noncomputable def jxK (r:List TE) (acc:Str) (σ:St) (Q:VK):VK:=fun x H1=>∃ y:Str,x=.str y/\y.length<=200000/\tJx r (acc++y) σ H1 Q
theorem r_jx {t:TE} {r:List TE} {acc:Str} {σ:St} {H:Hp} {Q:VK} (k:t σ H (jxK r acc σ Q)):tJx (t::r) acc σ H Q:=k
theorem aZp {r:List TE} {acc:Str} {σ:St} {H:Hp} {Q:VK} {y:Str} (hy:y.length<=200000) (k:tJx r (acc++y) σ H Q):jxK r acc σ Q (.str y) H:=⟨y,rfl,hy,k⟩
noncomputable def fsK (Q:VK):VK:=fun x H1=>∃ y:Str,x=.str y/\y.length<=200000/\Q (.str y) H1
theorem r_fms {te:TE} {σ:St} {H:Hp} {Q:VK} (k:te σ H (fsK Q)):aYm te σ H Q:=k
theorem r_fsK {H:Hp} {Q:VK} {y:Str} (hy:y.length<=200000) (k:Q (.str y) H):fsK Q (.str y) H:=⟨y,rfl,hy,k⟩
end
end L2
namespace L2
open PySem PySem.Spec PyProof.Rows
section
variable {prog:Program} {w:World} {A:Around} {E:Value -> Shared -> Prop} {s:Shared}
end
theorem len2Q {us:St} (h:us.length=2):∃ a b,us=[a,b]:=by
 cases us with
 | nil=>cases h
 | cons a us =>
  cases us with
  | nil=>cases h
  | cons b us =>
   cases us with
   | nil=>exact ⟨a,b,rfl⟩
   | cons c us=>cases h
section
variable {K:PySem.W.Frag} {σ:St} {H:Hp} {D:aEx} {Q:VK} {te:TE} {caps:St}
theorem aWc {a:Addr} {xs:List V} {g:TG} {tb:TS} (Pv:Nat->St->Hp->Prop) (h0:Pv 0 σ H) (hl:∀ i σ H,i<=xs.length->Pv i σ H->SqT K H a xs)
  (hs:∀ i x σ H,xs[i]?=some x->Pv i σ H->g x σ H fun σ2 H2=>tb ⟨Pv (i+1),D.rt,D.nx,Pv (i+1)⟩ σ2 H2) (hd:∀ σ H,Pv xs.length σ H->D.nx σ H):aXj g tb D σ (Itt K a) H:=aXi Pv h0 hl hs hd
theorem aWf {a:Addr} {xs:List V} (hn:xs.length<=1000) (Pv:Addr->Nat->List V->Hp->Prop) (h0:∀ acc,H acc=none->Pv acc 0 [] (upd H acc (.lst []))) (hl':∀ acc i ys H1,H acc=none->i<=xs.length->Pv acc i ys H1->SqL K H1 a xs)
  (hs:∀ acc i ys H1 x,H acc=none->xs[i]?=some x->ys.length=i->H1 acc=some (.lst ys)->Pv acc i ys H1->∃ p u v,x=.ref p/\H1 p=some (.tup [u,v])/\te (some u::some v::caps) H1 (aPs xs.length acc (Pv acc) ys i))
  (hd:∀ acc ys H1,H acc=none->H1 acc=some (.lst ys)->ys.length=xs.length->Pv acc xs.length ys H1->Q (.ref acc) H1):aIe te none (gTup K 2 (aUb (aGr 0) (aUb (aGr 1) gNil))) (List.replicate 2 none) caps Q (Itl K a) H:=by
 intro acc hacc
 refine ⟨cW xs.length acc (Pv acc),⟨xs.length,by simp,Nat.zero_le _,rfl,aAd,h0 acc hacc⟩,fun i m ys H1 hW=>?_⟩
 obtain ⟨rfl,hi,hl,ha,p⟩:=hW
 have q:=hl' acc i ys H1 hacc hi p
 refine ⟨ha,?_⟩
 rcases Nat.lt_or_ge i xs.length with hlt | hge
 ·refine .inr ⟨aC4 (by omega),⟨xs,xs[i],q,by simp [hlt]⟩,fun us x H' hu z=>?_⟩
  obtain ⟨rfl,z⟩:=z
  obtain ⟨o1,o2,rfl⟩:=len2Q hu
  obtain ⟨b,u,v,rfl,hb,k⟩:=hs acc i ys H' x hacc (z xs q) hl ha p
  exact ⟨b,_,rfl,SqT.of hb,rfl,u,[v],rfl,v,[],rfl,rfl,⟨[some u,some v],rfl,rfl⟩,k⟩
 ·cases (Nat.le_antisymm hi hge:i=xs.length)
  exact .inl ⟨⟨xs,q,Nat.le_refl _⟩,hd acc ys H1 hacc ha hl p⟩
end
noncomputable def dspQ (p:Addr) (Q:VK) (x1 y1 x2 y2 x3 y3 x4 y4:V) (H4:Hp):Prop:=H4 p=some (.dK [])/\∃ kvs:List (Key×V),[(x1,y1),(x2,y2),(x3,y3),(x4,y4)]=kvs.map (fun kv=>(kV kv.1,kv.2))/\kvs.length<=15/\Q (.ref p) (upd H4 p (.dK (aFn [] kvs)))
theorem aWd {σ:St} {H:Hp} {Q:VK} {k1 v1 k2 v2 k3 v3 k4 v4:TE} (k:∀ p,H p=none->k1 σ (upd H p (.dK [])) fun x1 H1=>v1 σ H1 fun y1 H2=>k2 σ H2 fun x2 H3=>v2 σ H3 fun y2 H4=>k3 σ H4 fun x3 H5=>v3 σ H5 fun y3 H6=>k4 σ H6 fun x4 H7=>v4 σ H7 fun y4 H8=>dspQ p Q x1 y1 x2 y2 x3 y3 x4 y4 H8):aYp [(k1,v1),(k2,v2),(k3,v3),(k4,v4)] σ H Q:=k
theorem aXq {p lf lk:Addr} {H:Hp} {Q:VK} (h:H p=some (.dK [])) (k:Q (.ref p) (upd H p (.dK (stK lf lk .non 0)))):dspQ p Q (.str "found") (.ref lf) (.str "known") (.ref lk) (.str "inside") .non (.str "used") (.int 0) H :=
 ⟨h,stK lf lk .non 0,rfl,Nat.le_of_ble_eq_true rfl,by
  rw [aLs (by rw [List.nil_append]; show (([Sum.inr "found",Sum.inr "known",Sum.inr "inside",Sum.inr "used"]:List Key)).Nodup; decide +kernel),List.nil_append]
  exact k⟩
section
variable {K:PySem.W.Frag} {H:Hp} {Q:VK} {p:Addr} {a b c d:V}
theorem aOb (h:H p=some (.tup [a,b,c,d])) (k:∀ l,H l=none->Q (.ref l) (upd H l (.tup [a,b,c]))):aX6 K (.ref p) none (some 3) H Q:=by
 have e2:HT.sIx 4 4 (some 3)=3:=by decide
 refine aYw h ?_ ?_
 ·show ¬ (_/\HT.sIx 4 4 (some 3)=4)
  rw [e2]
  exact fun z=>absurd z.2 (by decide)
 ·rw [show aDs [a,b,c,d] none (some 3)=[a,b,c] from aSi (xs:=[a,b,c,d]) 3]
  exact k
end
theorem aV8 {tc:TT} {t u:TS} {D:aEx} {σ:St} {H:Hp} (J:Hp->Prop) (hJ:∀ H1,J H1->u D σ H1) (k:∀ NB:Hp->Prop,(∀ H1,J H1->NB H1)->tc σ H fun b H1=>if b=true then t D σ H1 else NB H1):tIfS tc t u D σ H:=k _ hJ
end L2
namespace L2
open PySem PySem.Spec PyProof.Rows PySem.StrLaws
open PySem.Builtin.Str (strSub subAt occurrences partsBetween)
noncomputable def jnL (s:List Nat):List (List Nat)->List Nat
 | []=>[]
 | [x]=>x
 | x::y::r=>x++s++jnL s (y::r)
theorem aKk (s:Str):∀ xs:List Str,(Str.join s xs).cps.toList=jnL s.cps.toList (xs.map fun x=>x.cps.toList)
 | []=>rfl
 | [x]=>rfl
 | x::y::r=>by
  show (((x.cps++s.cps)++(Str.join s (y::r)).cps):Array Nat).toList=x.cps.toList++s.cps.toList++jnL s.cps.toList ((y::r).map fun x=>x.cps.toList)
  rw [← aKk s (y::r)]
  simp
end L2
namespace L2
open PySem PySem.Spec PyProof.Rows
noncomputable def aPx (n:Int):Str:=Str.ofString (toString n)
noncomputable def DigS (z:Str):Prop:=∀ c∈z.cps.toList,48<=c/\c < 58
theorem aRj (m:Nat):(aPx (m:Int)).cps.toList=(Nat.toDigits 10 m).map Char.toNat:=PySem.W.KIN.signs_num m
theorem aRi {n:Int} (h:0<=n):DigS (aPx n):=by
 obtain ⟨m,rfl⟩:=Int.eq_ofNat_of_zero_le h
 intro c hc
 rw [aRj] at hc
 obtain ⟨ch,hch,rfl⟩:=List.mem_map.mp hc
 have r:=Nat.isDigit_of_mem_toDigits (b:=10) (by decide) (by decide) hch
 simp only [Char.isDigit,Bool.and_eq_true,decide_eq_true_eq] at r
 have r1:48<=ch.toNat:=r.1
 have r2:ch.toNat<=57:=r.2
 exact ⟨r1,by omega⟩
theorem aKb {n:Int} (h0:0<=n) (h1:n < 10 ^ 12):1<=(aPx n).length/\(aPx n).length<=12:=by
 refine ⟨?_,PyProof.Rows.toString_length_le h0 (by decide) h1⟩
 obtain ⟨m,rfl⟩:=Int.eq_ofNat_of_zero_le h0
 rw [aBt,aRj,List.length_map]
 cases e:Nat.toDigits 10 m with
 | nil =>
  have:=PySem.W.KIN.val_back m
  rw [e] at this
  have h2:m=0:=this.symm
  subst h2
  cases e
 | cons a b=>simp
noncomputable def tmS (q:Rat):Str:=if q.den=1 then aPx q.num else aPx q.num++⟨#[47]⟩++aPx (q.den:Int)
noncomputable def WdS (z:Str):Prop:=32∉z.cps.toList/\59∉z.cps.toList/\z.length<=100
theorem aKp (x y:Str):(x++y).cps.toList=x.cps.toList++y.cps.toList:=by
 show (x.cps++y.cps).toList=_
 simp
theorem DigS.no {z:Str} (h:DigS z) {c:Nat} (hc:c < 48∨58<=c):c∉z.cps.toList:=fun m=>by have:=h c m; omega
theorem aNo.num {q:Rat} (h:aNo q):1<=q.num/\q.num < 10 ^ 12:=by
 have h0:=Rat.num_nonneg.mpr (Rat.le_of_lt h.1)
 have h1:q.num≠0:=fun z=>Rat.ne_of_gt h.1 (Rat.num_eq_zero.mp z)
 have:=h.2.1
 omega
theorem aNo.den {q:Rat} (h:aNo q):1<=(q.den:Int)/\(q.den:Int) < 10 ^ 12:=by
 have:=q.den_pos
 have:=h.2.2
 omega
theorem aS2 {q:Rat} (h:aNo q):WdS (tmS q):=by
 have d1:=aRi (n:=q.num) (by have:=h.num; omega)
 have d2:=aRi (n:=(q.den:Int)) (by have:=h.den; omega)
 have l1:=aKb (n:=q.num) (by have:=h.num; omega) h.num.2
 have l2:=aKb (n:=(q.den:Int)) (by have:=h.den; omega) h.den.2
 unfold tmS
 split
 ·exact ⟨d1.no (by omega),d1.no (by omega),by omega⟩
 ·have no:∀ c:Nat,c≠47->(c < 48∨58<=c)->c∉(aPx q.num++⟨#[47]⟩++aPx (q.den:Int)).cps.toList:=fun c h1 h2=>by
   rw [aKp,aKp]
   intro m
   rcases List.mem_append.mp m with m | m
   ·rcases List.mem_append.mp m with m | m
    ·exact d1.no h2 m
    ·exact h1 (by simpa using m)
   ·exact d2.no h2 m
  refine ⟨no 32 (by decide) (by omega),no 59 (by decide) (by omega),?_⟩
  rw [aCc,aCc,show (⟨#[47]⟩:Str).length=1 from rfl]
  omega
theorem aVc {P:Nat->Prop} {s:List Nat} {c:Nat} (h2:∀ d∈s,P d):∀ {ls:List (List Nat)},(∀ l∈ls,∀ d∈l,P d)->c∈jnL s ls->P c
 | [],_,hc=>by cases hc
 | [x],h1,hc=>h1 x (by simp) c hc
 | x::y::r,h1,hc=>by
  replace hc:c∈x++s++jnL s (y::r):=hc
  rcases List.mem_append.mp hc with hc | hc
  ·rcases List.mem_append.mp hc with hc | hc
   ·exact h1 x (by simp) c hc
   ·exact h2 c hc
  ·exact aVc h2 (ls:=y::r) (fun l hl=>h1 l (List.mem_cons_of_mem _ hl)) hc
theorem aE6 {s:Str} (h:aDb s):WdS s:=by
 have hp:=aTz.post h
 have j:=StrLaws.join_split s ⟨#[46]⟩
 have hall:∀ c∈s.cps.toList,c=46∨(97<=c/\c < 123):=by
  intro c hc
  rw [← j,aKk] at hc
  refine aVc (P:=fun c=>c=46∨(97<=c/\c < 123)) (fun d hd=>.inl (by simpa using hd)) (fun l hl d hd=>?_) hc
  obtain ⟨x,hx,rfl⟩:=List.mem_map.mp hl
  have:=hp.1 x hx
  unfold aA3 at this
  rw [Bool.and_eq_true,List.all_eq_true] at this
  have:=this.2 d hd
  rw [Bool.and_eq_true,decide_eq_true_iff,decide_eq_true_iff] at this
  exact .inr this
 refine ⟨fun m=>?_,fun m=>?_,h.2⟩
 ·have:=hall _ m; omega
 ·have:=hall _ m; omega
noncomputable def wdsP:aO5->List Str
 | .run a b t=>["run",a,b,tmS t]
 | .path k t ps=>k.nm::tmS t::ps
noncomputable def aKw:aGt->List Str
 | .plain r=>wdsP r
 | .put nm cl as=>"put"::nm::cl::as
noncomputable def aBu:aCp->List (List Str)
 | .one r=>[aKw r]
 | .piece p=>("piece"::p.1::p.2.1)::(p.2.2.map aKw++[[("end":Str)]])
noncomputable abbrev sp1:Str:=Str.ofString " "
noncomputable abbrev sp3:Str:=Str.ofString " ; "
noncomputable def aP7 (ls:List (List Str)):Str:=Str.join sp3 (ls.map (Str.join sp1))
theorem aIa (c:Nat):decide (c∈("0123456789":Str).cps.toList)=(decide (48<=c)&&decide (c < 58)):=by
 have e:("0123456789":Str).cps.toList=List.range' 48 10:=by decide +kernel
 rw [e,Bool.eq_iff_iff,Bool.and_eq_true,decide_eq_true_iff,decide_eq_true_iff,decide_eq_true_iff]
 exact List.mem_range'_1
noncomputable def rIntS:List V->Hp->VK->Prop:=fun vs H Q=>∃ (z:Str) (n:Int),vs=[.str z]/\PySem.intText? z=some n/\z.length<=640/\Q (.int n) H
theorem aO0 {X:Cx}:aDm X (.type "int") rIntS:=by
 intro pins s σ H vs us Q I r h
 obtain ⟨z,n,rfl,hz,hl,q⟩:=h
 obtain ⟨u,rfl,ru⟩:=r.one
 obtain ⟨t,rfl⟩:=ru
 exact PySem.W.KIN.call_text hz hl ⟨.int _,H,I.tok _,⟨_,rfl⟩,q⟩
theorem aCw {xs:List V} (n:Nat) (h:n<=xs.length):aDs xs (some (n:Int)) none=xs.drop n:=by
 unfold aDs
 have e1:HT.sIx xs.length xs.length none=xs.length:=rfl
 have e2:HT.sIx xs.length 0 (some (n:Int))=n:=by
  unfold HT.sIx
  dsimp only
  split <;> omega
 rw [e1,e2,List.take_of_length_le (by rw [List.length_drop]; omega)]
noncomputable def fpK:List (Key×V):=[(Sum.inr "row",.int 2),(Sum.inr "star",.int 2),(Sum.inr "ring",.int 3)]
noncomputable def fpN:aFy->Int
 | .ring=>3
 | _=>2
theorem aXh (k:aFy):aDc fpK (Sum.inr k.nm)=some (.int (fpN k)):=by cases k <;> with_unfolding_all rfl
noncomputable def rLenS (w:World):List V->Hp->VK->Prop:=fun vs H Q=>∃ (p:Addr) (xs:List Str),vs=[.ref p]/\H p=some (SetS w p xs)/\Q (.int xs.length) H
theorem aVi {X:Cx}:aDm X (.builtin "len") (rLenS X.w):=by
 intro pins s σ H vs us Q I r h
 obtain ⟨p,xs,rfl,hp,q⟩:=h
 obtain ⟨u,rfl,ru⟩:=r.one
 cases ru
 obtain ⟨es,ep,t,g,hel,hxs,hnd,hsz,hf,ht⟩:=(show aFx X.w s.heap p xs from (I.hok p _ hp).1)
 have hl:xs.length=es.size:=by rw [← hxs]; simp
 refine call_len_set g ⟨rfl,rfl,rfl⟩ rfl hf (by unfold scanBound at hsz; omega) ⟨.int xs.length,H,I.kept (h':=s.heap) (t':=s.toks+1+1) (fun _ _ e=>e),⟨_,by rw [hl]⟩,q⟩
noncomputable def LnQ (H:Hp) (v:V) (ws:List Str):Prop:=∃ a,v=.ref a/\H a=some (.lst (ws.map V.str))
noncomputable def LsQ (H:Hp) (l:Addr) (ls:List (List Str)):Prop:=∃ vs,H l=some (.lst vs)/\Paired (LnQ H) vs ls
theorem LnQ.sm {H G:Hp} {v:V} {ws:List Str} (h:LnQ H v ws) (s:aAm H G):LnQ G v ws:=let ⟨a,e,f⟩:=h; ⟨a,e,s _ _ f⟩
theorem LsQ.sm {H G:Hp} {l:Addr} {ls:List (List Str)} (h:LsQ H l ls) (s:aAm H G):LsQ G l ls:=let ⟨vs,a,b⟩:=h; ⟨vs,s _ _ a,Pd.imp b fun _ _ f=>f.sm s⟩
theorem aRk {ys xs:List Str} (n1:ys.Nodup) (n2:xs.Nodup) (h:∀ z,z∈ys ↔ z∈xs):ys.length=xs.length:=Nat.le_antisymm (aLr n1 fun x hx=>(h x).mp hx) (aLr n2 fun x hx=>(h x).mpr hx)
theorem aUw {w:World} {H:Hp} {Q:VK} {p:Addr} {xs:List Str} (hp:H p=some (.lst (xs.map V.str))) (hl:xs.length<=4000) (k:∀ (l:Addr) (ys:List Str) (G:Hp),H l=none->aAm H G->G l=some (SetS w l ys)->ys.Nodup->(∀ z,z∈ys ↔ z∈xs)->Q (.ref l) G):bAg w [.ref p] H Q :=
 ⟨p,xs,rfl,hp,hl,fun l ys h1 h2 h3=>k l ys _ h1 (aAm.new h1) aAd h2 h3⟩
theorem Pd.keep {α β:Type} {R S:α->β->Prop}:∀ {xs:List α} {ys:List β},Paired R xs ys->(∀ x y,x∈xs->R x y->S x y)->Paired S xs ys
 | _,_,.nil,_=>.nil
 | _,_,.cons h t,k=>.cons (k _ _ (by simp) h) (Pd.keep t fun x y hx=>k x y (List.mem_cons_of_mem _ hx))
theorem aSc:∀ xs ys:List Str,aMi (xs.map Dt.str) (ys.map Dt.str)=decide (xs=ys)
 | [],[]=>rfl
 | [],_::_=>rfl
 | _::_,[]=>rfl
 | x::xs,y::ys=>by
  show ((x==y)&&aMi (xs.map Dt.str) (ys.map Dt.str))=_
  rw [aSc xs ys,Bool.eq_iff_iff,Bool.and_eq_true,decide_eq_true_iff,decide_eq_true_iff,beq_iff_eq,List.cons.injEq]
theorem aGl {H:Hp} {Q:VK} {l1 l2:Addr} {xs ys:List Str} (h1:H l1=some (.lst (xs.map V.str))) (h2:H l2=some (.lst (ys.map V.str))) (k:Q (.bl (decide (xs=ys))) H):aTi (.ref l1) (.ref l2) H Q:=by
 refine aUf (ds:=xs.map Dt.str) (es:=ys.map Dt.str) ⟨l1,_,rfl,h1,aJb xs⟩ ⟨l2,_,rfl,h2,aJb ys⟩ (Nat.le_trans (aL7 xs) (by decide)) ?_
 rw [aSc]
 exact k
theorem bBj:WdS "run"/\WdS "put"/\WdS "piece"/\WdS "end"/\WdS "row"/\WdS "star"/\WdS "ring":=by
 unfold WdS
 decide +kernel
theorem aKj {ws:List Str} (h:∀ w∈ws,w.length<=100) (hn:ws.length<=50):(Str.join sp1 ws).length<=10000:=by
 have h1:=StrLaws.join_length_le sp1 ws
 have e:sp1.length=1:=by decide +kernel
 have h2:∀ {l:List Str},(∀ w∈l,w.length<=100)->(l.map (·.length)).sum<=l.length * 100:=by
  intro l
  induction l with
  | nil=>intro _; simp
  | cons a l ih =>
   intro h
   have:=ih fun w hw=>h w (List.mem_cons_of_mem _ hw)
   have:=h a (by simp)
   rw [List.map_cons,List.sum_cons,List.length_cons,Nat.succ_mul]
   omega
 have h3:=h2 h
 rw [e] at h1
 omega
noncomputable def aUl (ws:List Str):Prop:=ws≠[]/\(∀ w∈ws,WdS w)/\(Str.join sp1 ws).length<=10000
theorem aUl.of {ws:List Str} (h1:ws≠[]) (h2:∀ w∈ws,WdS w) (h3:ws.length<=50):aUl ws:=⟨h1,h2,aKj (fun w hw=>(h2 w hw).2.2) h3⟩
theorem WfE.nm {E:List aBf} (h:WfE E) {p:aBf} (hp:p∈E):aA3 p.1=true:=(h.at hp).2.2.2.2.2 p.1 (by simp)
theorem aEy {E:List aBf} (hE:WfE E) {r:aGt} (hw:WfT E r):aUl (aKw r):=by
 obtain ⟨k1,k2,k3,k4,k5,k6,k7⟩:=bBj
 cases r with
 | plain r =>
  cases r with
  | run a b t =>
   obtain ⟨h1,h2,h3⟩:=hw
   refine aUl.of (List.cons_ne_nil _ _) (fun w hw=>?_) (by show 4<=50; decide)
   have hw:w="run"∨w=a∨w=b∨w=tmS t:=by simpa [aKw,wdsP] using hw
   rcases hw with rfl | rfl | rfl | rfl
   ·exact k1
   ·exact aE6 h1
   ·exact aE6 h2
   ·exact aS2 h3
  | path k t ps =>
   obtain ⟨h1,h2,h3,h4,_⟩:=hw
   refine aUl.of (List.cons_ne_nil _ _) (fun w hw=>?_) (by show ps.length+1+1<=50; omega)
   have hw:w=k.nm∨w=tmS t∨w∈ps:=by simpa [aKw,wdsP] using hw
   rcases hw with rfl | rfl | hw
   ·cases k
    ·exact k5
    ·exact k6
    ·exact k7
   ·exact aS2 h2
   ·exact aE6 (h1 w hw)
 | put nm cl as =>
  obtain ⟨h1,h2,h3,x,hx,rfl,_⟩:=hw
  refine aUl.of (List.cons_ne_nil _ _) (fun w hw=>?_) (by show as.length+1+1+1<=50; omega)
  have hw:w="put"∨w=x.1∨w=cl∨w∈as:=by simpa [aKw] using hw
  rcases hw with rfl | rfl | rfl | hw
  ·exact k2
  ·exact aE6 (aTz.part (hE.nm hx))
  ·exact aE6 (aTz.part h1)
  ·exact aE6 (h2 w hw)
theorem aFp:∀ {gs:List aCp} {E:List aBf},WfE E->WfG E gs->∀ ws∈gs.flatMap aBu,aUl ws
 | [],_,_,_,_,h=>nomatch h
 | .one r::gs,E,hE,hG,ws,h=>by
  rw [List.flatMap_cons] at h
  rcases List.mem_append.mp h with h | h
  ·rw [List.mem_singleton.mp (show ws∈[aKw r] from h)]
   exact aEy hE hG.1
  ·exact aFp hE hG.2 ws h
 | .piece p::gs,E,hE,hG,ws,h=>by
  rw [List.flatMap_cons] at h
  obtain ⟨k1,k2,k3,k4,_⟩:=bBj
  obtain ⟨⟨g1,g2,g3,g4,⟨g5,g6,g7⟩,g8⟩,gg⟩:=id hG
  rcases List.mem_append.mp h with h | h
  ·rcases List.mem_cons.mp (show ws∈(("piece":Str)::p.1::p.2.1)::(p.2.2.map aKw++[[("end":Str)]]) from h) with rfl | h
   ·refine aUl.of (List.cons_ne_nil _ _) (fun w hw=>?_) (by show p.2.1.length+1+1<=50; omega)
    rcases List.mem_cons.mp hw with rfl | hw
    ·exact k3
    ·exact aE6 (aTz.part (g7 w hw))
   ·rcases List.mem_append.mp h with h | h
    ·obtain ⟨r,hr,rfl⟩:=List.mem_map.mp h
     exact aEy hE (g1 r hr)
    ·rw [List.mem_singleton.mp h]
     exact aUl.of (List.cons_ne_nil _ _) (fun w hw=>by rw [List.mem_singleton.mp hw]; exact k4) (by show 1<=50; decide)
  ·exact aFp (E:=p::E) ⟨hG.1,hE⟩ gg ws h
theorem aEi:∀ gs:List aCp,(gs.flatMap aBu).length=lnN gs
 | []=>rfl
 | .one r::gs=>by rw [List.flatMap_cons,List.length_append,aEi gs]; show 1+_=_+1; omega
 | .piece p::gs=>by
  rw [List.flatMap_cons,List.length_append,aEi gs]
  show ((p.2.2.map aKw++[[("end":Str)]]).length+1)+_=_
  rw [List.length_append,List.length_map]
  show _+1+1+_=lnN gs+p.2.2.length+2
  omega
theorem gs_at {gs:List aCp} {i:Nat} {g:aCp} (hg:gs[i]?=some g):(gs.flatMap aBu).drop ((gs.take i).flatMap aBu).length=aBu g++(gs.drop (i+1)).flatMap aBu:=by
 have e:gs=gs.take i++g::gs.drop (i+1):=by
  rw [← aEl hg,List.take_append_drop]
 have e2:gs.flatMap aBu=(gs.take i).flatMap aBu++(aBu g++(gs.drop (i+1)).flatMap aBu):=by
  conv=>lhs; rw [e,List.flatMap_append,List.flatMap_cons]
 rw [e2,List.drop_left]
theorem aXu {xs:List V} {a b:Nat} (h1:a<=b) (h2:b<=xs.length):aDs xs (some (a:Int)) (some (b:Int))=(xs.drop a).take (b - a):=by
 unfold aDs
 have e1:HT.sIx xs.length xs.length (some (b:Int))=b:=by
  unfold HT.sIx
  dsimp only
  split <;> omega
 have e2:HT.sIx xs.length 0 (some (a:Int))=a:=by
  unfold HT.sIx
  dsimp only
  split <;> omega
 rw [e1,e2]
end L2
namespace L2
open PySem PySem.Spec PyProof.Rows
noncomputable def aVp (P:Program) (w:World) (K:PySem.W.Frag) (a:Addr) (kvs:List (Key×V)):Prop:=(a==sysModules)=false/\∀ h:Heap,K.In h->∃ vs,KV kvs vs/\h.DictOf (aB5 P w) a vs
section
variable {X:Cx} {x:Str} {a:Addr} {kvs:List (Key×V)} {i:Expr} {ty:TE} {p pos:Pos}
noncomputable def aYl (kvs:List (Key×V)) (ty:TE):TE:=fun σ H Q=>ty σ H fun y H2=>∃ k v,y=kV k/\aDc kvs k=some v/\Q v H2
theorem aWr (hg:Gl X x) (hm:X.mg x=some (.ref a)) (hd:aVp X.prog X.w X.K a kvs) (hi:PE X i ty) (hs:NoSl i) (hdb:(x==("__debug__":Str))=false:=by decide):PE X (.Subscript (.Name x p) i pos) (aYl kvs ty):=by
 intro pins s σ H Q I h
 refine aQg PySem.F.slot_dict_getitem.lookup hs ?_
 refine thn (aCe (v:=.ref a) hg hm rfl hdb pins s σ H (fun x H1=>x=.ref a/\H1=H) I ⟨rfl,rfl⟩) fun u s1 ⟨y,H1,I1,rx,e1,e2⟩=>?_
 subst e1 e2
 obtain rfl:u=Value.ref a:=rx
 refine thn (hi pins s1 σ H1 _ I1 h) fun iv s2 ⟨y,H2,I2,ry,k,v,ey,ev,q⟩=>?_
 subst ey
 obtain ⟨vs,rel,dd⟩:=hd.2 s2.heap I2.kIn
 obtain ⟨w',hw,rw'⟩:=aO4.some_of (v:=v) (o:=valueAt vs k) (by rw [← ev]; exact rel.val k)
 exact ⟨dd.typeIs,wpAny_getItem_of (aKi ry) dd.mapOf hw ⟨v,H2,I2.tok _,rw',q⟩⟩
noncomputable def tKIn (kvs:List (Key×V)) (ty:TE):TE:=fun σ H Q=>ty σ H fun y H2=>∃ k,y=kV k/\Q (.bl (aDc kvs k).isSome) H2
theorem bA4 (hg:Gl X x) (hm:X.mg x=some (.ref a)) (hd:aVp X.prog X.w X.K a kvs) (hi:PE X i ty) (hdb:(x==("__debug__":Str))=false:=by decide):PC X .In i (.Name x p) (tKIn kvs ty):=by
 intro pins s σ H Q I h
 refine thn (hi pins s σ H _ I h) fun iv s1 ⟨y,H1,I1,ry,k,ey,q⟩=>?_
 subst ey
 refine thn (aCe (v:=.ref a) hg hm rfl hdb pins s1 σ H1 (fun x H2=>x=.ref a/\H2=H1) I1 ⟨rfl,rfl⟩) fun u s2 ⟨y,H2,I2,rx,e1,e2⟩=>?_
 subst e1 e2
 obtain rfl:u=Value.ref a:=rx
 obtain ⟨vs,rel,dd⟩:=hd.2 s2.heap I2.kIn
 refine wpAny_in_of (aKi ry) hd.1 dd.mapOf ?_
 rw [← (rel.val k).isSome_eq]
 exact ⟨.bl _,H2,I2.tok _,rfl,q⟩
end
theorem aVp.of3 {P:Program} {w:World} {K:PySem.W.Frag} {a:Addr} {s1 s2 s3:Str} {n1 n2 n3:Int} {h1 h2 h3:Int} {t1 t2 t3 u1 u2 u3:Tok} {ep:Nat} (l:K.lookup a=some ⟨.type "dict",none,.dict #[⟨h1,.str s1 t1,.int n1 u1⟩,⟨h2,.str s2 t2,.int n2 u2⟩,⟨h3,.str s3 t3,.int n3 u3⟩] ep,#[]⟩)
  (e1:h1=aSz w (Sum.inr s1)) (e2:h2=aSz w (Sum.inr s2)) (e3:h3=aSz w (Sum.inr s3)) (ns:(a==sysModules)=false) (nd:([Sum.inr s1,Sum.inr s2,Sum.inr s3]:List Key).Nodup):aVp P w K a [(Sum.inr s1,.int n1),(Sum.inr s2,.int n2),(Sum.inr s3,.int n3)]:=by
 subst e1 e2 e3
 refine ⟨ns,fun h hK=>⟨[(Sum.inr s1,.int n1 u1),(Sum.inr s2,.int n2 u2),(Sum.inr s3,.int n3 u3)],.cons ⟨rfl,⟨u1,rfl⟩⟩ (.cons ⟨rfl,⟨u2,rfl⟩⟩ (.cons ⟨rfl,⟨u3,rfl⟩⟩ .nil)),_,_,_,hK _ _ l,⟨rfl,rfl,rfl⟩,rfl,?_,?_,nd⟩⟩
 ·intro e he
  have he:e∈[(⟨aSz w (Sum.inr s1),.str s1 t1,.int n1 u1⟩:DictEntry),⟨aSz w (Sum.inr s2),.str s2 t2,.int n2 u2⟩,⟨aSz w (Sum.inr s3),.str s3 t3,.int n3 u3⟩]:=by simpa using he
  rcases List.mem_cons.mp he with rfl | he
  ·exact ⟨Sum.inr s1,aC9 s1 t1,rfl⟩
  rcases List.mem_cons.mp he with rfl | he
  ·exact ⟨Sum.inr s2,aC9 s2 t2,rfl⟩
  ·rw [List.mem_singleton.mp he]
   exact ⟨Sum.inr s3,aC9 s3 t3,rfl⟩
 ·exact .cons (kv:=(Sum.inr s1,.int n1 u1)) (aC9 s1 t1) rfl (.cons (kv:=(Sum.inr s2,.int n2 u2)) (aC9 s2 t2) rfl (.cons (kv:=(Sum.inr s3,.int n3 u3)) (aC9 s3 t3) rfl .nil))
noncomputable def kgK (kvs:List (Key×V)) (Q:VK):VK:=fun y H2=>∃ k v,y=kV k/\aDc kvs k=some v/\Q v H2
theorem aZo {kvs:List (Key×V)} {ty:TE} {σ:St} {H:Hp} {Q:VK} (k:ty σ H (kgK kvs Q)):aYl kvs ty σ H Q:=k
theorem r_kgS {kvs:List (Key×V)} {H:Hp} {Q:VK} {s:Str} {v:V} (e:aDc kvs (Sum.inr s)=some v) (k:Q v H):kgK kvs Q (.str s) H:=⟨Sum.inr s,v,rfl,e,k⟩
noncomputable def kiK (kvs:List (Key×V)) (Q:VK):VK:=fun y H2=>∃ k,y=kV k/\Q (.bl (aDc kvs k).isSome) H2
theorem r_kin {kvs:List (Key×V)} {ty:TE} {σ:St} {H:Hp} {Q:VK} (k:ty σ H (kiK kvs Q)):tKIn kvs ty σ H Q:=k
theorem aZn {kvs:List (Key×V)} {H:Hp} {Q:VK} {s:Str} {b:Bool} (e:(aDc kvs (Sum.inr s)).isSome=b) (k:Q (.bl b) H):kiK kvs Q (.str s) H:=⟨Sum.inr s,rfl,by rw [e]; exact k⟩
end L2
namespace L2
open PySem PySem.Spec PyProof.Rows
theorem aW5 {x:Value} {env env':Env} (h:env'.frame=env.frame):noteFrame x env'=noteFrame x env:=by
 unfold noteFrame PySem.frameOf
 rw [h]
section
variable {M:Model} {A:Around} {E:Value -> Shared -> Prop} {s:Shared} {env:Env} {outer:List Env} {base:Heap} {L x T C:Addr} {Q:Unit -> Shared -> Prop}
theorem aOs {fl:Value} (hfr:A.frames=some (env::outer)) (hf:env.frame=some L) (hl:s.heap.FunFrames base (env::outer)) (f:aP0 x T C fl s.heap)
  (k:∀ h' T' fl',aP0 x T' C fl' h'->(T'=T∨s.heap.get? T'=none)->Kpt (frs (env::outer)) [x,T] s.heap h'->Q () { s with heap:=h' }):wpAny M A (noteFrame (.ref x) env) Q E s:=by
 obtain ⟨oe,vs,oT,ts,e1,e2,e3,e4,e5,e6,e7,e8,e9⟩:=f
 unfold noteFrame
 simp only [hf]
 refine wpAny_bind (wpAny_field e1 e3 e4 ?_)
 rw [if_pos (by simp)]
 refine wpAny_bind (wpAny_field e7 e8 e9 ?_)
 by_cases hfl:(fl==rawInt L)=true
 ·rw [if_pos hfl]
  exact wpAny_pure (k s.heap T fl ⟨oe,vs,oT,ts,e1,e2,e3,e4,e5,e6,e7,e8,e9⟩ (.inl rfl) .refl)
 ·rw [if_neg hfl]
  refine wpAny_bind (wpAny_setField e7 e8 (Array.getElem?_eq_some_iff.mp e9).1 ?_)
  have oth:∀ b,b≠T->(s.heap.update T (Obj.mapFields (·.setIfInBounds 3 Value.none))).get? b=s.heap.get? b:=fun b hb=>Heap.get?_update_other _ _ (Ne.symm hb)
  have hl':(s.heap.update T (Obj.mapFields (·.setIfInBounds 3 Value.none))).FunFrames base (env::outer):=hl.of_keeps fun b o hb hn=>⟨o,(oth b fun z=>by rw [z,e7] at hb; cases hb; exact hn ts e8).trans hb,rfl⟩
  refine aKm (s:={ s with heap:=s.heap.update T (Obj.mapFields (·.setIfInBounds 3 Value.none)) }) hfr hf hl' ((oth x (Ne.symm e6)).trans e1) e2 e3 (Array.getElem?_eq_some_iff.mp e4).1 e5 fun h' T' f' n' k'=>k h' T' _ f' (.inr ?_) ?_
  ·cases z:s.heap.get? T' with
   | none=>rfl
   | some o =>
    exfalso
    by_cases q:T'=T
    ·have d3:=Obj.data_mapFields e8 (·.setIfInBounds 3 Value.none)
     have:=Heap.get?_update_self (Obj.mapFields (·.setIfInBounds 3 Value.none)) e7 (Obj.isFreed_of_fields d3)
     rw [← q,show Heap.get? (s.heap.update T' _) T'=none from q ▸ n'] at this; cases this
    ·have:=(oth T' q).trans z
     rw [show Heap.get? (s.heap.update T _) T'=none from n'] at this; cases this
  ·refine ⟨fun b o e n m=>k'.keep b o ((oth b fun z=>m (by simp [z])).trans e) n fun y=>m (by simp at y; simp [y]),fun b o e n m=>k'.slot b o ((oth b fun z=>m (by simp [z])).trans e) n fun y=>m (by simp at y; simp [y])⟩
theorem aPq {fl:Value} (hfr:A.frames=some (env::outer)) (hf:env.frame=some L) (hl:s.heap.FunFrames base (env::outer)) (f:aP0 x T C fl s.heap)
  (k:∀ h' T',Fly x T' C h'->(T'=T∨s.heap.get? T'=none)->Kpt (frs (env::outer)) [x,T] s.heap h'->Q () { s with heap:=h' }):wpAny M A (leaving env (.ref x)) Q E s:=by
 unfold leaving
 refine wpAny_bind (aOs hfr hf hl f fun h1 T1 fl1 f1 n1 k1=>?_)
 refine aH9 (s:={ s with heap:=h1 }) (h0:=h1) (fs:=[]) f1 (.inl .refl) fun h2 f2 k2 _=>k h2 T1 f2 n1 ?_
 have nT:∀ b o,s.heap.get? b=some o->b∉[x,T]->b∉[x,T1]:=fun b o e m z=>by
  rcases List.mem_cons.mp z with z | z
  ·exact m (by simp [z])
  ·rcases n1 with q | q
   ·exact m (by rw [List.mem_singleton.mp z,q]; simp)
   ·rw [List.mem_singleton.mp z,q] at e; cases e
 exact ⟨fun b o e n m=>k2.keep b o (k1.keep b o e n m) (by simp) (nT b o e m),fun b o e n m=>(k1.slot b o e n m).imp fun sl q=>k2.keep b _ q (by simp) (nT b o e m)⟩
end
noncomputable def aSv (X:Cx) (E:XK):Prop:=∀ (pins:List (Addr×Obj)) (σ:St) (H:Hp) (s:Shared) (x T C:Addr) (fl:Value),Inv X pins σ H s->X.s₀.heap.get? x=none->X.s₀.heap.get? T=none->H x=none->H T=none->aP0 x T C fl s.heap->E (.ref C) none H->X.xe (.ref x) s
section
variable {P:Program} {w:World} {K:PySem.W.Frag} {mg:Str -> Option Value} {base:Heap} {N:List Str} {qual:Str} {scope:Scope} {f:Addr} {cd:Value} {A:Around} {outer:List Env} {s:Shared} {H:Hp} {E:XK}
theorem aXd:aSv (aPy (CXe P w) P w K mg base N qual scope f cd A outer s H E) E:=by
 intro pins σ H' s2 x T C fl I2 nx nT hx hT f2 q
 have u2:Un (frs outer) [] H H' s.heap s2.heap:=I2.base
 refine aPq I2.ok.frames rfl I2.stack f2 fun h2 T2 fl2 n2 k=>?_
 have k':Kpt (s.heap.objs.size::frs outer) [x,T] s2.heap h2:=k
 have nx':s.heap.get? x=none:=nx
 have nT':s.heap.get? T=none:=nT
 have hT2:s.heap.get? T2=none/\H' T2=none:=by
  rcases n2 with z | z
  ·rw [z]; exact ⟨nT',hT⟩
  ·exact ⟨u2.was z,I2.hok.none_of z⟩
 refine ⟨x,T2,C,H',rfl,I2.os,I2.bare,u2.kpt k'.mv fun b hb=>?_,I2.hok.kpt k' (fun b hb=>I2.stkFree b hb) (fun b hb=>?_),nx',hT2.1,hx,hT2.2,fl2,q⟩
 ·rcases List.mem_cons.mp hb with z | z
  ·rw [z]; exact Heap.get?_none_of_le (Nat.le_refl _)
  ·rcases List.mem_cons.mp z with z | z
   ·rw [z]; exact nx'
   ·rw [List.mem_singleton.mp z]; exact nT'
 ·rcases List.mem_cons.mp hb with z | z
  ·rw [z]; exact hx
  ·rw [List.mem_singleton.mp z]; exact hT
end
noncomputable def XeC (X:Cx) (E:XK):Value->Shared->Prop:=fun e s'=>∃ (pins:List (Addr×Obj)) (σ:St) (H:Hp) (s:Shared),Inv X pins σ H s/\CXe X.prog X.w X.stack H s E e s'
theorem passC {X:Cx} {E:XK}:aIj (CXe X.prog X.w) (X.wish (XeC X E)) E:=fun pins σ H s e s' I h=>⟨pins,σ,H,s,I.unwish,h⟩
theorem aKq {prog:Program} {w:World} {A:Around} {R:Result->Shared->Prop} {s:Shared} {elt target iter:Expr} {ifs:List Expr} {scope:Scope} {pos:Pos} {it acc:Value} {env:Env} (I:Nat->Shared->Prop)
  (turn:∀ n s,I n s->wpAny (model prog w) A (pyNext it) (fun r s₁=>match r with
   | none=>R (.ok .next) s₁
   | some v=>wpAny (model prog w) A (letOwnedTupleGo target it v) (fun _ s₁'=>wpAny (model prog w) A (assign target env v) (fun _ s₂ =>
     wpAny (model prog w) A (forIn ifs true fun c r=>if r=true then do let ok ← isTrue c env (eval c env); pure (ForInStep.yield ok) else pure (ForInStep.yield r)) (fun ok s₃ =>
      if ok=true then wpAny (model prog w) A (eval elt env) (fun x s₄ =>
       wpAny (model prog w) A (call (.builtin "list.append") [acc,x]) (fun _ s₅=>∃ m,m < n/\I m s₅) (fun _ _=>False) s₄) (notedBy (model prog w) A env fun x s'=>R (.error x) s') s₃
      else ∃ m,m < n/\I m s₃) (fun _ _=>False) s₂) (fun _ _=>False) s₁') (fun _ _=>False) s₁) (fun _ _=>False) s)
  (n:Nat) (h:I n s) :
  codeAny (model prog w) A (.compLoop (.ListComp elt [⟨target,iter,ifs,0⟩] scope pos) 0 it acc env) R s:=by
 refine codeAny_loop rfl I (fun n s hI=>?_) n h
 show wpAny _ A ((compTurn (.ListComp elt [⟨target,iter,ifs,0⟩] scope pos) 0 it acc env).onRaise (fun x=>do noteFrame x env; theTreesLotGoes x)) _ _ s
 refine wpAny_noted ?_
 rw [compTurn_list]
 refine wpAny_bind (wpAny_standAt (wpAny_bind (wpAny_mono (turn n s hI) (fun r s₁ h₁=>?_) fun _ _ h'=>h'.elim)))
 cases r with
 | none=>exact wpAny_pure h₁
 | some v =>
  refine wpAny_bind (wpAny_mono h₁ (fun _ s₁' h₁'=>?_) fun _ _ h'=>h'.elim)
  refine wpAny_bind (wpAny_mono h₁' (fun _ s₂ h₂=>wpAny_bind (wpAny_mono h₂ (fun ok s₃ h₃=>?_) fun _ _ h'=>h'.elim)) fun _ _ h'=>h'.elim)
  cases ok with
  | false=>exact wpAny_pure ⟨rfl,h₃⟩
  | true =>
   exact wpAny_bind (wpAny_bind (wpAny_mono h₃ (fun x s₄ h₄=>wpAny_bind (wpAny_mono h₄ (fun _ s₅ h₅=>wpAny_pure (wpAny_pure ⟨rfl,h₅⟩)) fun _ _ h'=>h'.elim)) fun _ _ h'=>h'))
theorem aSj {X:Cx} {ok:Cx->Prop} {scope:Scope} {tn names:List Str} {is:List Nat} (ck:aIk X scope tn names is) (hc:∀ C s0 H0 ex,ok (aA1 X scope (aBc X.env names) (tn++names) C s0 H0 ex)) {E:XK} (hst:X.stack=X.env::X.outer) (hff:X.env.frame=some X.env.locals) (hex0:X.ex=[]) {elt tg iter:Expr} {ifs:List Expr} {pos:Pos} {te:TE} {tc:Option TT} {g:TG}
  (hg:∀ C s0 H0 ex,PG (aA1 X scope (aBc X.env names) (tn++names) C s0 H0 ex) tg g) (he:∀ C s0 H0 ex,PE ((aA1 X scope (aBc X.env names) (tn++names) C s0 H0 ex).wish (XeC (aA1 X scope (aBc X.env names) (tn++names) C s0 H0 ex) E)) elt te)
  (ht:∀ C s0 H0 ex,PTs (aA1 X scope (aBc X.env names) (tn++names) C s0 H0 ex) ifs tc)
  {pins:List (Addr×Obj)} {σ:St} {Q:VK} {s2:Shared} {itv:Value} {E':Value->Shared->Prop} (h2:PIEG ok X pins σ tg (aIe te tc g (List.replicate tn.length none) (aIg σ is) Q) itv s2) {RR:Value->Addr->Result->Shared->Prop}
  (fin:∀ (acc C:Addr) (H':Hp) (s':Shared) (m:Str->Option Value),Inv X pins σ H' s'->s'.heap.Ns C m->H' C=none->C≠X.env.locals->(∀ x c,X.env.cells.lookup x=some c->c≠C)->(∀ p∈X.pn++pins,p.1≠C)->X.s₀.heap.objs.size<=C->Q (.ref acc) H' ->
   RR (.ref acc) C (.ok .next) s')
  (finX:∀ (acc C:Addr) (H':Hp) (s':Shared) (m:Str->Option Value) (x T Cc:Addr) (fl:Value),Inv X pins σ H' s'->s'.heap.Ns C m->H' C=none->C≠X.env.locals->(∀ x c,X.env.cells.lookup x=some c->c≠C)->(∀ p∈X.pn++pins,p.1≠C)->X.s₀.heap.objs.size<=C ->
   aP0 x T Cc fl s'.heap->X.s₀.heap.get? x=none->X.s₀.heap.get? T=none->H' x=none->H' T=none->aSx X pins H' T->x≠C->T≠C->E (.ref Cc) none H'->RR (.ref acc) C (.error (.ref x)) s') :
  wpAny (model X.prog X.w) X.A (newList []) (fun acc s₃=>wpAny (model X.prog X.w) X.A (newFunctionEnv scope X.env.globals (aBc X.env names) [] X.env.qual none .none (some X.env)) (fun cenv s₄ =>
   codeAny (model X.prog X.w) X.A (.compStart (.ListComp elt [⟨tg,iter,ifs,0⟩] scope pos) 0 itv acc { cenv with scope:=relabel scope X.env }) (RR acc cenv.locals) s₄) E' s₃) E' s2:=by
 obtain ⟨it,fp,tnx,J,H2,rfl,I2,T,st2,f2,hK⟩:=h2
 have facc:H2 s2.heap.objs.size=none:=I2.hok.fresh (Nat.le_refl _)
 refine wpAny_newObj_type ?_ (by show 0<=sizeLine; decide)
 have fpl:∀ b∈fp,b < s2.heap.objs.size:=fun b hb=>let ⟨o,e,_⟩:=T.obj 0 _ st2 b hb; Heap.lt_size e
 generalize hs3:({ s2 with heap:=s2.heap.push { cls:=.type "list",data:=.seq ([]:List Value).toArray } }:Shared)=s3
 have hsz3:s3.heap.objs.size=s2.heap.objs.size+1:=by rw [← hs3]; exact Heap.size_push ..
 have keep23:∀ b o,s2.heap.get? b=some o->s3.heap.get? b=some o:=fun b o e=>by rw [← hs3]; exact Heap.get?_push_of_some _ e
 have I3:Inv X pins σ (upd H2 s2.heap.objs.size (.lst [])) s3:=by
  rw [← hs3]
  exact I2.laid (t':=s2.toks) (fun b u e=>Heap.get?_push_of_some _ e) (Nat.le_refl _) ⟨Nat.zero_le _,[],0,.nil,Heap.get?_push_size _ rfl⟩
 refine wpAny_newFunctionEnv ck.nocell (by intro y hy; simp at hy) (fun h1 ns sb=>?_) ck.kind
 have kp:∀ b o,s3.heap.get? b=some o->h1.get? b=some o:=fun b o e=>sb.extBut b o (Nat.ne_of_lt (Heap.lt_size e)) (Heap.get?_push_of_some _ e)
 have lt3:∀ b:Addr,b < s2.heap.objs.size->b < s3.heap.objs.size:=fun b hb=>Nat.lt_of_lt_of_le hb (by rw [hsz3]; exact Nat.le_succ _)
 have ns':h1.Ns s3.heap.objs.size fun _=>none:=ns
 have I4:=aSk (t4:=s3.toks+([]:List (Str×Value)).length) ck I2 I3 f2 (fun b hb=>lt3 b (fpl b hb)) (fun b hb=>Nat.ne_of_lt (fpl b hb)) ns' kp
 generalize hX':aA1 X scope (aBc X.env names) (tn++names) s3.heap.objs.size s3 (upd H2 s2.heap.objs.size (.lst [])) fp=X' at I4
 have hA:X'.A=X.A:=by rw [← hX']; rfl
 have hP:X'.prog=X.prog:=by rw [← hX']; rfl
 have hW:X'.w=X.w:=by rw [← hX']; rfl
 have hKK:X'.K=X.K:=by rw [← hX']; rfl
 have hcm:ok X':=by rw [← hX']; exact hc _ _ _ _
 have hfs:X'.fs=frs X.stack:=by rw [← hX']; rfl
 have hex:X'.ex=fp:=by rw [← hX']; rfl
 have hloc:X'.env.locals=s3.heap.objs.size:=by rw [← hX']; rfl
 have hs0:X'.s₀=s3:=by rw [← hX']; rfl
 have hH0:X'.H₀=upd H2 s2.heap.objs.size (.lst []):=by rw [← hX']; rfl
 have hxe:X'.xe=fun _ _=>False:=by rw [← hX']; rfl
 have henv:X'.env=compEnvC scope (aBc X.env names) s3.heap.objs.size X.env:=by rw [← hX']; rfl
 have hg':PG X' tg g:=by rw [← hX']; exact hg _ _ _ _
 have he':PE (X'.wish (XeC X' E)) elt te:=by rw [← hX']; exact he _ _ _ _
 have hstk:X'.stack=X.stack:=by rw [← hX']; rfl
 have ht':PTs X' ifs tc:=by rw [← hX']; exact ht _ _ _ _
 have cells':∀ x c,X'.env.cells.lookup x=some c->X.env.cells.lookup x=some c:=fun x c e=>by rw [henv] at e; exact aDt e
 obtain ⟨W,⟨m0,w0⟩,turn⟩:=hK _ facc
 have stat:∀ {H':Hp},(∀ b∈fp,H' b=none)->∀ b∈fp,aPz X' [] H' b:=fun {H'} hn b hb=>by
  refine ⟨hn b hb,?_,?_,.inl (by rw [hex]; exact hb),fun x c e=>(f2 b hb).2.2.2.2.1 x c (cells' x c e),fun p hp=>?_⟩
  ·rw [hloc]; exact Nat.ne_of_lt (lt3 b (fpl b hb))
  ·rw [hfs]
   intro z
   rcases List.mem_cons.mp (I2.stkSub b z) with q | q
   ·exact (f2 b hb).2.1 q
   ·exact (f2 b hb).2.2.1 q
  ·rw [← hX'] at hp
   exact absurd hp (by simp [aA1])
 have raised:∀ e s',XeC X' E e s'->notedBy (model X.prog X.w) X.A X'.env (fun x s''=>RR (.ref s2.heap.objs.size) s3.heap.objs.size (.error x) s'') e s':=by
  rintro e s' ⟨pins1,σ1,H1,s1,J1,hcx⟩
  rw [hP,hW,hstk] at hcx
  obtain ⟨x,T,Cc,H',rfl,ho,hgn,un,hok,nx,nT,hx,hT,fl,q⟩:=hcx
  have u23:Un (frs X.stack) fp H2 (upd H2 s2.heap.objs.size (.lst [])) s2.heap s3.heap:=Un.laid keep23 (Nat.le_refl _) facc
  have u31:Un (frs X.stack) fp (upd H2 s2.heap.objs.size (.lst [])) H1 s3.heap s1.heap:=by
   have b:=J1.base
   rw [hfs,hex,hs0,hH0] at b
   exact b
  have hos:s1.os=s2.os:=by
   have b:=J1.os
   rw [hs0,← hs3] at b
   exact b
  have IO1:Inv X pins σ H1 s1:=I2.call' hos (u23.trans u31) (by have b:=J1.hok; rw [hP,hW] at b; exact b) J1.bare fun b hb=>by
   obtain ⟨_,f1,f2',f3,f4,f5⟩:=f2 b hb
   exact ⟨f3,f1,fun x c e=>f4 x c e,fun p hp=>f5 p hp⟩
  have IO2:Inv X pins σ H' s':=IO1.call' (ch:=[]) ho un hok hgn (fun b z=>absurd z (by simp))
  have J2:Inv X' pins1 σ1 H' s':=J1.call' (ch:=[]) ho (by rw [hstk]; exact un) (by rw [hP,hW]; exact hok) hgn (fun b z=>absurd z (by simp))
  obtain ⟨m,hm,_⟩:=J2.loc
  rw [hloc] at hm
  have fC:H' s3.heap.objs.size=none:=by have b:=J2.free; rw [hloc] at b; exact b
  obtain ⟨mC,hmC,_⟩:=J1.loc
  rw [hloc] at hmC
  have xC:x≠s3.heap.objs.size:=fun z=>by
   obtain ⟨o,_,_,e,_⟩:=hmC
   rw [← z,nx] at e; cases e
  have TC:T≠s3.heap.objs.size:=fun z=>by
   obtain ⟨o,_,_,e,_⟩:=hmC
   rw [← z,nT] at e; cases e
  have CL:s3.heap.objs.size≠X.env.locals:=Nat.ne_of_gt (Nat.lt_of_lt_of_le I2.lt (by omega))
  have Cfr:s3.heap.objs.size∉frs X.stack:=fun z=>by
   rcases List.mem_cons.mp (I2.stkSub _ z) with q | q
   ·exact CL q
   ·exact I2.nofs (by omega) q
  have was:∀ {b:Addr} {H0:Hp} {sx:Shared},Inv X pins σ H0 sx->sx.heap.get? b=none->X.s₀.heap.get? b=none:=fun {b H0 sx} Ix e=>by
   have u:=Ix.base
   rw [hex0] at u
   exact u.was e
  show wpAny _ _ (noteFrame (.ref x) X'.env) _ _ _
  rw [aW5 (env:=X.env) (by rw [henv]; rfl)]
  have hfr:X.A.frames=some (X.env::X.outer):=by rw [← hst]; exact IO2.ok.frames
  have hl:s'.heap.FunFrames X.base (X.env::X.outer):=by rw [← hst]; exact IO2.stack
  refine aOs hfr hff hl fl fun h' T' fl' f' n' kp=>?_
  rw [← hst] at kp
  have fx:aSx X pins H' x:=IO1.frsh hex0 nx hx
  have fT:aSx X pins H' T:=IO1.frsh hex0 nT hT
  have IO3:Inv X pins σ H' { s' with heap:=h' }:=IO2.kpt kp fun b hb=>by
   rcases List.mem_cons.mp hb with z | z
   ·rw [z]; exact fx
   ·rw [List.mem_singleton.mp z]; exact fT
  have hT':X.s₀.heap.get? T'=none/\H' T'=none/\aSx X pins H' T'/\T'≠s3.heap.objs.size:=by
   rcases n' with z | z
   ·rw [z]; exact ⟨was IO1 nT,hT,fT,TC⟩
   ·refine ⟨was IO2 z,hok.none_of z,IO2.frsh hex0 z (hok.none_of z),fun y=>?_⟩
    obtain ⟨o,_,_,e,_⟩:=hm
    rw [← y,z] at e; cases e
  refine finX _ _ H' { s' with heap:=h' } m x T' Cc fl' IO3 ?_ fC CL (fun x c e=>?_) (fun p hp=>?_) (Nat.le_trans I2.sz (by omega)) f' (was IO1 nx) hT'.1 hx hT'.2.1 hT'.2.2.1 xC hT'.2.2.2 q
  ·obtain ⟨o,es,ep,e,r⟩:=hm
   exact ⟨o,es,ep,kp.keep _ o e Cfr (by simp [Ne.symm xC,Ne.symm TC]),r⟩
  ·obtain ⟨v,z⟩:=I2.cell x c e
   exact Nat.ne_of_lt (lt3 c z.lt)
  ·exact Nat.ne_of_lt (lt3 p.1 (Heap.lt_size (I2.pin p hp).1))
 have loop:∀ s4:Shared,Inv X' [] (List.replicate tn.length none++aIg σ is) (upd H2 s2.heap.objs.size (.lst [])) s4->tnx 0 s4.heap ->
   codeAny (model X.prog X.w) X.A (.compLoop (.ListComp elt [⟨tg,iter,ifs,0⟩] scope pos) 0 (.ref it) (.ref s2.heap.objs.size) X'.env) (RR (.ref s2.heap.objs.size) s3.heap.objs.size) s4:=by
  intro s4 J4 st4
  refine aKq (fun n s'=>∃ i ys ts H',Inv X' [] (ts++aIg σ is) H' s'/\ts.length=tn.length/\tnx i s'.heap/\(∀ b∈fp,H' b=none)/\W i n ys H') ?_ m0
   ⟨0,[],_,_,J4,List.length_replicate ..,st4,fun b hb=>by rw [aBg (Nat.ne_of_lt (fpl b hb))]; exact (f2 b hb).1,w0⟩
  rintro n s5 ⟨i,ys,ts,H5,I5,hts,st5,fr5,w5⟩
  obtain ⟨hacc5,hcase⟩:=turn i n ys H5 w5
  have hrun:∀ {α:Type} {m:Sem α} {Q':α->Shared->Prop} {s':Shared},wpAny (model X'.prog X'.w) X'.A m Q' (fun _ _=>False) s'->wpAny (model X.prog X.w) X.A m Q' (fun _ _=>False) s':=fun {α m Q' s'} z=>by
   rw [hP,hW,hA] at z; exact z
  rcases hcase with ⟨stop,qn⟩ | ⟨hlen,go,step⟩
  ·have z:=T.done X' hP hW hKK hcm i [] s5 _ H5 (fun _ _=>False) I5 (stat fr5) st5 stop
   rw [hA] at z
   refine thn z fun r s6 ⟨hr,I6⟩=>?_
   subst hr
   -- the frame around,behind the block
   have u23:Un (frs X.stack) fp H2 (upd H2 s2.heap.objs.size (.lst [])) s2.heap s3.heap:=Un.laid keep23 (Nat.le_refl _) facc
   have u36:Un (frs X.stack) fp (upd H2 s2.heap.objs.size (.lst [])) H5 s3.heap s6.heap:=by
    have b:=I6.base
    rw [hfs,hex,hs0,hH0] at b
    exact b
   have hos:s6.os=s2.os:=by
    have b:=I6.os
    rw [hs0,← hs3] at b
    exact b
   have IO:Inv X pins σ H5 s6:=I2.call' hos (u23.trans u36) (by have b:=I6.hok; rw [hP,hW] at b; exact b) I6.bare fun b hb=>by
    obtain ⟨_,f1,f2',f3,f4,f5⟩:=f2 b hb
    exact ⟨f3,f1,fun x c e=>f4 x c e,fun p hp=>f5 p hp⟩
   obtain ⟨m,hm,_⟩:=I6.loc
   rw [hloc] at hm
   have fC:H5 s3.heap.objs.size=none:=by have b:=I6.free; rw [hloc] at b; exact b
   refine fin _ _ H5 s6 m IO hm fC ?_ (fun x c e=>?_) (fun p hp=>?_) ?_ qn
   ·exact Nat.ne_of_gt (Nat.lt_of_lt_of_le I2.lt (by omega))
   ·obtain ⟨v,z⟩:=I2.cell x c e
    exact Nat.ne_of_lt (lt3 c z.lt)
   ·exact Nat.ne_of_lt (lt3 p.1 (Heap.lt_size (I2.pin p hp).1))
   ·exact Nat.le_trans I2.sz (by omega)
  ·have z:=T.item X' hP hW hKK hcm i [] s5 _ H5 (fun _ _=>False) I5 (stat fr5) st5 go
   rw [hA] at z
   refine thn z fun r s6 ⟨u,hr,h6⟩=>?_
   subst hr
   refine thn h6 fun _ s7 ⟨x,H7,I7,r7,y7,st7,fr7⟩=>?_
   have I7':=I7.pinned (stat fr7) (T.obj _ _ st7)
   have zg:=hg' _ s7 _ H7 x u _ I7' r7 (step ts x H7 (by rw [hts,List.length_replicate]) y7)
   rw [hxe] at zg
   refine thn (hrun zg) fun _ s8 ⟨σ8,H8,I8,⟨us2,hus,e8⟩,q8⟩=>?_
   subst e8
   rw [List.length_replicate] at hus
   have back:∀ {s9:Shared} {H9:Hp},Inv X' ([]++aEe fp s7.heap) (us2++aIg σ is) H9 s9->tnx (i+1) s9.heap/\∀ b∈fp,H9 b=none:=fun {s9 H9} I9=>by
    refine ⟨T.keep _ _ _ st7 fun b hb o e=>(I9.pin (b,o) (List.mem_append_right _ (List.mem_append_right _ (aC3 hb e)))).1,fun b hb=>?_⟩
    obtain ⟨o,e,d⟩:=T.obj _ _ st7 b hb
    exact (I9.pin (b,o) (List.mem_append_right _ (List.mem_append_right _ (aC3 hb e)))).2.1
   have made:∀ {s9:Shared} {H9:Hp},Inv X' ([]++aEe fp s7.heap) (us2++aIg σ is) H9 s9->te (us2++aIg σ is) H9 (fun y H3=>H3 s2.heap.objs.size=some (.lst ys)/\∃ m',m' < n/\W (i+1) m' (ys++[y]) (upd H3 s2.heap.objs.size (.lst (ys++[y])))) ->
     wpAny (model X.prog X.w) X.A (eval elt X'.env) (fun x s₄=>wpAny (model X.prog X.w) X.A (call (.builtin "list.append") [.ref s2.heap.objs.size,x]) (fun _ s₅=>∃ m,m < n/\∃ i ys ts H',Inv X' [] (ts++aIg σ is) H' s₅/\ts.length=tn.length/\tnx i s₅.heap/\(∀ b∈fp,H' b=none)/\W i m ys H') (fun _ _=>False) s₄) (notedBy (model X.prog X.w) X.A X'.env fun x s''=>RR (.ref s2.heap.objs.size) s3.heap.objs.size (.error x) s'') s9:=fun {s9 H9} I9 q9=>by
    have ze:=he' _ s9 _ H9 _ (I9.wish _) q9
    have ze2:wpAny (model X'.prog X'.w) X'.A (eval elt X'.env) (EP (X'.wish (XeC X' E)) ([]++aEe fp s7.heap) (us2++aIg σ is) (fun y H3=>H3 s2.heap.objs.size=some (.lst ys)/\∃ m',m' < n/\W (i+1) m' (ys++[y]) (upd H3 s2.heap.objs.size (.lst (ys++[y]))))) (XeC X' E) s9:=ze
    rw [hP,hW,hA] at ze2
    refine wpAny_mono ze2 (fun y s10 ⟨yv,H10,I10,ry,ha10,m',hm',w10⟩=>?_) raised
    replace I10:=I10.unwish
    have za:=(aBm (X:=X')) ([]++aEe fp s7.heap) s10 (us2++aIg σ is) H10 (.ref s2.heap.objs.size) [yv] (.ref s2.heap.objs.size) [y] (fun v H'=>v=.non/\H'=upd H10 s2.heap.objs.size (.lst (ys++[yv]))) I10 rfl (.cons ry .nil)
     ⟨_,ys,yv,rfl,rfl,ha10,hlen,rfl,rfl⟩
    rw [hxe] at za
    refine thn (hrun za) fun _ s11 ⟨_,H11,I11,_,_,e11⟩=>?_
    subst e11
    obtain ⟨b1,b2⟩:=back I11
    exact ⟨m',hm',i+1,_,us2,_,I11.unpinned,hus,b1,b2,w10⟩
   cases ifs with
   | nil =>
    cases tc with
    | some t=>exact ht'.elim
    | none=>exact wpAny_tests_nil (by rw [if_pos rfl]; exact made I8 q8)
   | cons c0 aDj =>
    cases aDj with
    | cons _ _=>cases tc <;> exact ht'.elim
    | nil =>
     cases tc with
     | none=>exact ht'.elim
     | some t =>
      have zt:=(show PT X' c0 t from ht') _ s8 _ H8 _ I8 q8
      rw [hxe] at zt
      refine wpAny_tests_one (thn (hrun zt) fun ok s9 ⟨H9,I9,q9⟩=>?_)
      cases ok with
      | true=>rw [if_pos rfl]; rw [if_pos rfl] at q9; exact made I9 q9
      | false =>
       rw [if_neg Bool.false_ne_true]
       rw [if_neg Bool.false_ne_true] at q9
       obtain ⟨m',hm',w9⟩:=q9
       obtain ⟨b1,b2⟩:=back I9
       exact ⟨m',hm',i+1,_,us2,_,I9.unpinned,hus,b1,b2,w9⟩
 have st4:tnx 0 h1:=T.keep _ _ _ st2 fun b hb o e=>kp b o (keep23 b o e)
 have goal0:=loop _ I4 st4
 rw [henv] at goal0
 refine codeAny_compStart_list goal0 (T.self X.A 0 _ _ _ st4 goal0)
section
variable {X:Cx} {tg:Expr} {scope:Scope} {tn names:List Str} {is:List Nat} {elt iter:Expr} {ifs:List Expr} {pos:Pos} {wi:TI} {te:TE} {tc:Option TT} {g:TG} {E:XK}
theorem aTp (hL:aSv X E) (hst:X.stack=X.env::X.outer) (hff:X.env.frame=some X.env.locals) (hex0:X.ex=[]) (ck:aIk X scope tn names is) (hc:X.calm=true) (hi:PI X tg iter wi)
  (hg:∀ C s0 H0 ex,PG (aA1 X scope (aBc X.env names) (tn++names) C s0 H0 ex) tg g) (he:∀ C s0 H0 ex,PE ((aA1 X scope (aBc X.env names) (tn++names) C s0 H0 ex).wish (XeC (aA1 X scope (aBc X.env names) (tn++names) C s0 H0 ex) E)) elt te)
  (ht:∀ C s0 H0 ex,PTs (aA1 X scope (aBc X.env names) (tn++names) C s0 H0 ex) ifs tc) (hs:∀ x,foldedSetIterable iter X.env x=pure x:=by intro _; rfl) :
  PE X (.ListComp elt [⟨tg,iter,ifs,0⟩] scope pos) (aS4 wi te tc g tn.length is):=by
 intro pins s σ H Q I h
 rw [eval_ListComp]
 refine wpAny_comprehension_free (use:=none) rfl hs (ck.cls fun x hx=>I.ok.has x (ck.outk x hx)) ck.kind ck.nms (thn (hi pins s σ H _ I h) fun v s1 h1=>thn h1 fun itv s2 h2=>?_)
 refine aSj (RR:=fun acc C=>compPost (model X.prog X.w) X.A X.xe none (EP X pins σ Q) acc C) (ok:=fun X=>X.calm=true) ck (fun _ _ _ _=>hc) hst hff hex0 hg he ht (aWn h2) (fun acc C H' s' m I' hn hC hL' hcl hpn hsz q=>?_) fun acc C H' s' m x T Cc fl I' hn hC hL' hcl hpn hsz f nx nT hx hT fT xC TC q=>?_
 ·refine ⟨m,hn,fun h' sb=>⟨.ref acc,H',?_,rfl,q⟩⟩
  exact I'.turned (t':=s'.toks) (fun b o hb e=>sb.extBut b o hb e) hC hL' (.inr hsz) hcl hpn
 ·refine ⟨m,hn,fun h' sb cenv _=>?_⟩
  have I4:Inv X pins σ H' { s' with heap:=h' }:=I'.turned (t':=s'.toks) (fun b o hb e=>sb.extBut b o hb e) hC hL' (.inr hsz) hcl hpn
  obtain ⟨oe,vs,oT,ts,e1,e2,e3,e4,e5,e6,e7,e8,e9⟩:=f
  have d1:h'.get? x=some oe:=sb.extBut _ _ xC e1
  have d7:h'.get? T=some oT:=sb.extBut _ _ TC e7
  have sz:3 < ts.size:=(Array.getElem?_eq_some_iff.mp e9).1
  unfold PySem.passOn
  refine wpAny_bind (wpAny_field (s:={ s' with heap:=h' }) d1 e3 e4 ?_)
  rw [if_neg (by simp)]
  unfold setFlight
  refine wpAny_bind (wpAny_bind (wpAny_field (s:={ s' with heap:=h' }) d1 e3 e4 ?_))
  rw [if_pos (by simp)]
  have d3:=Obj.data_mapFields e8 (·.setIfInBounds 3 (cenv.frame.elim Value.none fun f=>rawInt f))
  refine wpAny_setField (s:={ s' with heap:=h' }) d7 e8 sz ?_
  have I5:=I4.kpt (h':=h'.update T (Obj.mapFields (·.setIfInBounds 3 (cenv.frame.elim Value.none fun f=>rawInt f)))) (xs:=[T]) (Kpt.upd (Kpt.refl (fs:=frs X.stack) (xs:=[T]) (h:=h')) _ (.inl (by simp))) fun b hb=>by
   rw [List.mem_singleton.mp hb]
   exact fT
  refine wpAny_throw ?_
  refine hL pins σ H' _ x T Cc (cenv.frame.elim Value.none fun f=>rawInt f) I5 nx nT hx hT ⟨oe,vs,_,_,(Heap.get?_update_other _ _ e6).trans d1,e2,e3,e4,e5,e6,Heap.get?_update_self _ d7 (Obj.isFreed_of_fields d3),d3,by simp [sz]⟩ q
end
end L2
namespace L2
open PySem PySem.Spec PyProof.Rows
theorem aNc (z:Str):∀ ws:List Str,(Str.join z ws).length<=(ws.map (·.length)).sum+ws.length * z.length
 | []=>Nat.zero_le _
 | [x]=>by
  show x.length<=_
  simp
 | x::y::r=>by
  have ih:=aNc z (y::r)
  show (x++z++Str.join z (y::r)).length<=_
  rw [aCc,aCc]
  simp only [List.map_cons,List.sum_cons,List.length_cons,Nat.succ_mul] at ih ⊢
  omega
theorem aCr {α:Type} {l:List α} {i:Nat} {x:α} (h:l[i]?=some x):l.take (i+1)=l.take i++[x]:=by
 have hi:=(List.getElem?_eq_some_iff.mp h).1
 rw [List.take_succ_eq_append_getElem hi,(List.getElem?_eq_some_iff.mp h).2]
noncomputable def aOv (c:Nat):Bool:=decide (48<=c)&&decide (c < 58)
noncomputable def bBx (z:Str):Bool:=match z.cps.toList with | []=>false | c::_=>decide (c≠48)
noncomputable def aCi (z:Str):Bool:=(decide (1<=z.length)&&decide (z.length<=12))&&(z.cps.toList.all aOv&&bBx z)
theorem aK9 {n:Nat} (h:n<=1000000):n < sizeLine:=Nat.lt_of_le_of_lt h (by decide)
section
variable {te:TE} {Q:VK} {H:Hp} {caps:St} {K:PySem.W.Frag}
theorem aJ1 {a:Addr} {xs:List V} (hn:xs.length<=1000000) (Pv:Addr->Nat->List V->Hp->Prop) (h0:∀ acc,H acc=none->Pv acc 0 [] (upd H acc (.lst []))) (hl':∀ acc i ys H1,H acc=none->i<=xs.length->Pv acc i ys H1->SqL K H1 a xs)
  (hs:∀ acc i ys H1 x,H acc=none->xs[i]?=some x->ys.length=i->H1 acc=some (.lst ys)->Pv acc i ys H1->te (some x::caps) H1 (aPs xs.length acc (Pv acc) ys i))
  (hd:∀ acc ys H1,H acc=none->H1 acc=some (.lst ys)->ys.length=xs.length->Pv acc xs.length ys H1->Q (.ref acc) H1):aIe te none (aGr 0) (List.replicate 1 none) caps Q (Itl K a) H:=by
 intro acc hacc
 refine ⟨cW xs.length acc (Pv acc),⟨xs.length,by simp,Nat.zero_le _,rfl,aAd,h0 acc hacc⟩,?_⟩
 rintro i m ys H1 ⟨rfl,hi,hl,ha,p⟩
 have q:=hl' acc i ys H1 hacc hi p
 refine ⟨ha,?_⟩
 by_cases hlt:i < xs.length
 ·refine .inr ⟨aK9 (by omega),⟨xs,xs[i],q,by simp [hlt]⟩,fun us x H' hu y=>?_⟩
  obtain ⟨e,y⟩:=y
  subst e
  obtain ⟨o,rfl⟩:=bBi hu
  exact ⟨⟨[some x],rfl,rfl⟩,hs acc i ys _ x hacc (y xs q) hl ha p⟩
 ·have e:i=xs.length:=by omega
  subst e
  exact .inl ⟨⟨xs,q,Nat.le_refl _⟩,hd acc ys H1 hacc ha hl p⟩
theorem aQ1 {c:TT} {a:Addr} {xs:List V} (hn:xs.length<=1000000) (Pv:Addr->Nat->List V->Hp->Prop) (h0:∀ acc,H acc=none->Pv acc 0 [] (upd H acc (.lst []))) (hl':∀ acc i ys H1,H acc=none->i<=xs.length->Pv acc i ys H1->SqL K H1 a xs)
  (hs:∀ acc i ys H1 x,H acc=none->xs[i]?=some x->ys.length<=i->H1 acc=some (.lst ys)->Pv acc i ys H1->c (some x::caps) H1 fun b H3=>if b=true then te (some x::caps) H3 (bB2 xs.length acc (Pv acc) ys i) else bB1 xs.length acc (Pv acc) ys i H3)
  (hd:∀ acc ys H1,H acc=none->H1 acc=some (.lst ys)->ys.length<=xs.length->Pv acc xs.length ys H1->Q (.ref acc) H1):aIe te (some c) (aGr 0) (List.replicate 1 none) caps Q (Itl K a) H:=by
 intro acc hacc
 refine ⟨fW xs.length acc (Pv acc),⟨xs.length,by simp,Nat.zero_le _,Nat.le_refl _,aAd,h0 acc hacc⟩,?_⟩
 rintro i m ys H1 ⟨rfl,hi,hl,ha,p⟩
 have q:=hl' acc i ys H1 hacc hi p
 refine ⟨ha,?_⟩
 by_cases hlt:i < xs.length
 ·refine .inr ⟨aK9 (by omega),⟨xs,xs[i],q,by simp [hlt]⟩,fun us x H' hu y=>?_⟩
  obtain ⟨e,y⟩:=y
  subst e
  obtain ⟨o,rfl⟩:=bBi hu
  exact ⟨⟨[some x],rfl,rfl⟩,hs acc i ys _ x hacc (y xs q) hl ha p⟩
 ·have e:i=xs.length:=by omega
  subst e
  exact .inl ⟨⟨xs,q,Nat.le_refl _⟩,hd acc ys H1 hacc ha hl p⟩
theorem aGm {p q:Addr} {xs ys:List V} (h1:H p=some (.lst xs)) (h2:H q=some (.lst ys)) (hl:xs.length+ys.length<=1000000) (k:∀ l,H l=none->Q (.ref l) (upd H l (.lst (xs++ys)))):aIp K (.ref p) (.ref q) H Q :=
 .inr (.inl ⟨p,q,xs,ys,rfl,rfl,h1,h2,Nat.le_of_lt (aK9 hl),k⟩)
end
noncomputable def wt (ws:List Str):Nat:=(ws.map (·.length)).sum+ws.length
theorem aIr:wt []=0:=rfl
theorem aBd (w:Str) (ws:List Str):wt (w::ws)=w.length+1+wt ws:=by
 unfold wt
 rw [List.map_cons,List.sum_cons,List.length_cons]
 omega
theorem aGf:∀ (a b:List Str),wt (a++b)=wt a+wt b
 | [],b=>by rw [List.nil_append,aIr,Nat.zero_add]
 | x::a,b=>by rw [List.cons_append,aBd,aBd,aGf a b]; omega
theorem aG8 (ws:List Str):ws.length<=wt ws:=Nat.le_add_left _ _
theorem aVs (ws:List Str) (n:Nat):wt (ws.drop n)<=wt ws:=by
 have:=aGf (ws.take n) (ws.drop n)
 rw [List.take_append_drop] at this
 omega
theorem aIs:∀ {ws:List Str} {w:Str},w∈ws->w.length+1<=wt ws
 | x::ws,w,h=>by
  rw [aBd]
  rcases List.mem_cons.mp h with rfl | h
  ·omega
  ·have:=aIs h
   omega
theorem aXe (ws:List Str):(Str.join sp1 ws).length<=wt ws:=by
 have:=aNc sp1 ws
 have e:sp1.length=1:=by decide +kernel
 rw [e,Nat.mul_one] at this
 exact this
theorem aH6:∀ {ws:List Str} (z:Str),ws≠[]->(Str.join z ws).length+z.length=(ws.map (·.length)).sum+ws.length * z.length
 | [x],z,_=>by
  show x.length+z.length=_
  simp
 | x::y::r,z,_=>by
  have ih:=aH6 (ws:=y::r) z (List.cons_ne_nil _ _)
  show (x++z++Str.join z (y::r)).length+z.length=_
  rw [aCc,aCc]
  simp only [List.map_cons,List.sum_cons,List.length_cons,Nat.succ_mul] at ih ⊢
  omega
theorem aJh (z:Str):wt (Txt.split z sp1)=z.length+1:=by
 have h1:=StrLaws.join_split z sp1
 have h3:=split_pos z sp1
 have:=aH6 (ws:=Txt.split z sp1) sp1 (fun e=>by rw [e] at h3; simp at h3)
 have e:sp1.length=1:=by decide +kernel
 rw [h1,e,Nat.mul_one] at this
 unfold wt
 omega
theorem aDv (z y:Str):Txt.split z y≠[]:=fun e=>by
 have:=split_pos z y
 rw [e] at this
 simp at this
noncomputable def aBn (z:Str):Int:=(PySem.intText? z).getD 0
theorem aXp:∀ (l:List Nat) (n:Nat),(∀ c∈l,48<=c/\c < 58)->l.foldl (fun n c=>n * 10+(c - 48)) n < (n+1) * 10 ^ l.length/\n * 10 ^ l.length<=l.foldl (fun n c=>n * 10+(c - 48)) n
 | [],n,_=>by simp
 | c::l,n,h=>by
  have ⟨i1,i2⟩:=aXp l (n * 10+(c - 48)) fun d hd=>h d (List.mem_cons_of_mem _ hd)
  have hc:=h c (by simp)
  rw [List.foldl_cons,List.length_cons,Nat.pow_succ]
  have p:=Nat.pow_pos (n:=l.length) (show 0 < 10 by decide)
  refine ⟨Nat.lt_of_lt_of_le i1 ?_,Nat.le_trans ?_ i2⟩
  ·rw [Nat.mul_comm (10 ^ _) 10,← Nat.mul_assoc]
   exact Nat.mul_le_mul_right _ (by omega)
  ·rw [Nat.mul_comm (10 ^ _) 10,← Nat.mul_assoc]
   exact Nat.mul_le_mul_right _ (by omega)
theorem dv_lt (l:List Nat) (h:∀ c∈l,48<=c/\c < 58):PySem.NumText.digitsVal l < 10 ^ l.length:=by
 have:=(aXp l 0 h).1
 rw [Nat.zero_add,Nat.one_mul] at this
 exact this
theorem bB6 {c:Nat} {r:List Nat} (h:49<=c) (h2:∀ d∈r,48<=d/\d < 58):1<=PySem.NumText.digitsVal (c::r):=by
 have q:=(aXp r (0 * 10+(c - 48)) h2).2
 have p:=Nat.pow_pos (n:=r.length) (show 0 < 10 by decide)
 have:1 * 1<=(0 * 10+(c - 48)) * 10 ^ r.length:=Nat.mul_le_mul (by omega) p
 exact Nat.le_trans (by omega) q
theorem aEn {z:Str} (h:aCi z=true):PySem.intText? z=some (aBn z)/\1<=aBn z/\aBn z < 10 ^ 12/\z.length<=12:=by
 unfold aCi at h
 rw [Bool.and_eq_true,Bool.and_eq_true,Bool.and_eq_true,decide_eq_true_iff,decide_eq_true_iff,List.all_eq_true] at h
 obtain ⟨⟨h1,h2⟩,h3,h4⟩:=h
 have hd:∀ c∈z.cps.toList,48<=c/\c < 58:=fun c hc=>by
  have:=h3 c hc
  unfold aOv at this
  rw [Bool.and_eq_true,decide_eq_true_iff,decide_eq_true_iff] at this
  exact this
 unfold bBx at h4
 cases e:z.cps.toList with
 | nil=>rw [e] at h4; cases h4
 | cons c r =>
  rw [e] at h4
  have h5:c≠48:=of_decide_eq_true h4
  have q:=PySem.intText_digits (x:=z) (fun c hc=>⟨(hd c hc).1,by have:=(hd c hc).2; omega⟩) (by rw [e]; simp) (by omega)
  have ev:aBn z=((PySem.NumText.digitsVal z.cps.toList:Nat):Int):=by unfold aBn; rw [q]; rfl
  have b1:=dv_lt z.cps.toList hd
  have b2:=bB6 (c:=c) (r:=r) (by have:=hd c (by rw [e]; simp); omega) (fun d m=>hd d (by rw [e]; exact List.mem_cons_of_mem _ m))
  rw [← e] at b2
  rw [← aBt] at b1
  have b3:10 ^ z.length<=10 ^ 12:=Nat.pow_le_pow_right (by decide) h2
  rw [ev]
  exact ⟨q,by omega,by omega,h2⟩
noncomputable def timC (a b:Str):Prop:=aBn b≠1/\Int.gcd (aBn a) (aBn b)=1
noncomputable instance (a b:Str):Decidable (timC a b):=inferInstanceAs (Decidable (_/\_))
noncomputable def tmL:List Str->Option Rat
 | [a]=>if aCi a=true then some ((aBn a:Int):Rat) else none
 | [a,b]=>if aCi a=true/\aCi b=true/\timC a b then some (mkRat (aBn a) (aBn b).toNat) else none
 | _=>none
noncomputable def tmO (z:Str):Option Rat:=tmL (Txt.split z ⟨#[47]⟩)
noncomputable def aFr (k:Str):Option aFy:=if k="row" then some .row else if k="star" then some .star else if k="ring" then some .ring else none
noncomputable abbrev Cnt:=Str->Option Nat
noncomputable def aTb:List Str->Option aGt
 | [a,b,t]=>if aBx a=true/\aBx b=true then (tmO t).map fun t=>.plain (.run a b t) else none
 | _=>none
noncomputable def aM1 (k:aFy):List Str->Option aGt
 | t::ps=>if fpN k<=(ps.length:Int)/\ps.all aBx=true then (tmO t).map fun t=>.plain (.path k t ps) else none
 | []=>none
noncomputable def aU3 (f:Cnt):List Str->Option aGt
 | nm::cl::as=>if f nm=some as.length/\aA3 cl=true/\as.all aBx=true then some (.put nm cl as) else none
 | _=>none
noncomputable def aBk (f:Cnt):List Str->Option aGt
 | []=>none
 | k::r=>if k="run" then aTb r else match aFr k with
  | some kd=>aM1 kd r
  | none=>if k="put" then aU3 f r else none
noncomputable def aCh (f:Cnt):List Str->Option (Str×List Str)
 | k::nm::ps=>if k="piece"/\(1<=ps.length/\ps.length<=8)/\(nm::ps).all aA3=true/\ps.Nodup/\f nm=none then some (nm,ps) else none
 | _=>none
noncomputable def aTj (f:Cnt) (nm:Str) (n:Nat):Cnt:=fun s=>if s=nm then some n else f s
noncomputable def LR:Cnt->Option aBf->List aCp->List (List Str)->Option (List aCp)
 | _,none,gs,[]=>some gs
 | _,some _,_,[]=>none
 | f,none,gs,ws::aDj =>
  match aBk f ws with
  | some r=>LR f none (gs++[.one r]) aDj
  | none=>match aCh f ws with
   | some p=>LR f (some (p.1,p.2,[])) gs aDj
   | none=>none
 | f,some p,gs,ws::aDj =>
  match aBk f ws with
  | some r=>LR f (some (p.1,p.2.1,p.2.2++[r])) gs aDj
  | none=>if ws=[("end":Str)]/\p.2.2≠[] then LR (aTj f p.1 p.2.1.length) none (gs++[.piece p]) aDj else none
noncomputable def aEj (z:Str):List (List Str):=(Txt.split z sp3).map fun l=>Txt.split l sp1
noncomputable def aLf (z:Str):Option (List aCp):=if (aEj z).length<=60 then LR (fun _=>none) none [] (aEj z) else none
noncomputable def aIl (f:Cnt):List (List Str)->Option (List aGt)
 | []=>some []
 | ws::r=>match aBk f ws with
  | none=>none
  | some t=>(aIl f r).map fun ts=>t::ts
noncomputable def aI7 (f:Cnt):List (List Str)->Option aBf
 | []=>none
 | hd::inner=>match aCh f hd with
  | none=>none
  | some p=>if inner=[] then none else (aIl f inner).map fun rs=>(p.1,p.2,rs)
theorem aYc (f:Cnt) (gs:List aCp) (ws:List Str) (aDj:List (List Str)):LR f none gs (ws::aDj)=match aBk f ws with
  | some r=>LR f none (gs++[.one r]) aDj
  | none=>match aCh f ws with
   | some p=>LR f (some (p.1,p.2,[])) gs aDj
   | none=>none:=by rw [LR]
theorem aYb (f:Cnt) (p:aBf) (gs:List aCp) (ws:List Str) (aDj:List (List Str)):LR f (some p) gs (ws::aDj)=match aBk f ws with
  | some r=>LR f (some (p.1,p.2.1,p.2.2++[r])) gs aDj
  | none=>if ws=[("end":Str)]/\p.2.2≠[] then LR (aTj f p.1 p.2.1.length) none (gs++[.piece p]) aDj else none:=by rw [LR]
theorem aPo:aFr "piece"=none:=by decide +kernel
theorem aT6:aFr "end"=none:=by decide +kernel
theorem aT5:aFr "put"=none:=by decide +kernel
theorem aCg (f:Cnt) (k:Str) (r:List Str):aBk f (k::r)=if k="run" then aTb r else match aFr k with
  | some kd=>aM1 kd r
  | none=>if k="put" then aU3 f r else none:=rfl
theorem aE7 (f:Cnt) (r:List Str):aBk f ("piece"::r)=none:=by
 rw [aCg,if_neg (by decide +kernel),aPo]
 exact if_neg (by decide +kernel)
theorem aLg (f:Cnt) (r:List Str):aBk f ("end"::r)=none:=by
 rw [aCg,if_neg (by decide +kernel),aT6]
 exact if_neg (by decide +kernel)
theorem aO1 {f:Cnt} {k:Str} {r:List Str} (h:k≠"piece"):aCh f (k::r)=none:=by
 cases r with
 | nil=>rfl
 | cons nm ps=>exact if_neg fun z=>h z.1
theorem bCh {f:Cnt} {nm:Str} {ps:List Str} {gs:List aCp} {aDj:List (List Str)}:∀ (inner:List (List Str)) (acc:List aGt),(∀ w∈inner,w≠[("end":Str)])->LR f (some (nm,ps,acc)) gs (inner++[("end":Str)]::aDj)=match aIl f inner with
  | none=>none
  | some rs=>if acc++rs=[] then none else LR (aTj f nm ps.length) none (gs++[.piece (nm,ps,acc++rs)]) aDj
 | [],acc,_=>by
  rw [List.nil_append,aYb,aLg]
  unfold aIl
  dsimp only
  rw [List.append_nil]
  by_cases h:acc=[]
  ·rw [if_neg (fun z=>z.2 h),if_pos h]
  ·rw [if_pos ⟨rfl,h⟩,if_neg h]
 | w::inner,acc,hn=>by
  rw [List.cons_append,aYb]
  unfold aIl
  cases hp:aBk f w with
  | none =>
   dsimp only
   rw [if_neg fun z=>hn w (by simp) z.1]
  | some r =>
   dsimp only
   rw [bCh inner (acc++[r]) fun w hw=>hn w (List.mem_cons_of_mem _ hw)]
   cases aIl f inner with
   | none=>rfl
   | some rs =>
    dsimp only [Option.map]
    rw [List.append_assoc]
    rfl
theorem aUm {f:Cnt} {gs:List aCp} {hd:List Str} {inner aDj:List (List Str)} (h1:∃ r:List Str,hd=("piece":Str)::r) (h2:∀ w∈inner,w≠[("end":Str)]):LR f none gs (hd::inner++[("end":Str)]::aDj)=match aI7 f (hd::inner) with
  | none=>none
  | some p=>LR (aTj f p.1 p.2.1.length) none (gs++[.piece p]) aDj:=by
 obtain ⟨r,rfl⟩:=h1
 rw [List.cons_append,aYc,aE7]
 rw [show aI7 f (("piece"::r)::inner)=match aCh f ("piece"::r) with
  | none=>none
  | some p=>if inner=[] then none else (aIl f inner).map fun rs=>(p.1,p.2,rs) from rfl]
 dsimp only
 cases hb:aCh f ("piece"::r) with
 | none=>rfl
 | some p =>
  dsimp only
  rw [bCh inner [] h2]
  by_cases hi:inner=[]
  ·subst hi
   rw [if_pos rfl]
   rfl
  ·rw [if_neg hi]
   cases hm:aIl f inner with
   | none=>rfl
   | some rs =>
    dsimp only [Option.map]
    rw [List.nil_append,if_neg]
    rintro rfl
    cases inner with
    | nil=>exact hi rfl
    | cons w inner =>
     unfold aIl at hm
     cases hp:aBk f w with
     | none=>rw [hp] at hm; cases hm
     | some t =>
      rw [hp] at hm
      dsimp only at hm
      cases h5:aIl f inner with
      | none=>rw [h5] at hm; cases hm
      | some ts=>rw [h5] at hm; cases hm
theorem aSw:∀ {f:Cnt} {p:aBf} {gs:List aCp} {ls:List (List Str)},(∀ w∈ls,w≠[("end":Str)])->LR f (some p) gs ls=none
 | f,p,gs,[],_=>rfl
 | f,p,gs,w::ls,h=>by
  rw [aYb]
  cases hp:aBk f w with
  | none =>
   dsimp only
   rw [if_neg fun z=>h w (by simp) z.1]
  | some r=>exact aSw fun w hw=>h w (List.mem_cons_of_mem _ hw)
theorem aUn {f:Cnt} {gs:List aCp} {hd:List Str} {ls:List (List Str)} (h1:∃ r:List Str,hd=("piece":Str)::r) (h2:∀ w∈ls,w≠[("end":Str)]):LR f none gs (hd::ls)=none:=by
 obtain ⟨r,rfl⟩:=h1
 rw [aYc,aE7]
 dsimp only
 cases hb:aCh f ("piece"::r) with
 | none=>rfl
 | some p=>exact aSw h2
noncomputable def KdQ (H:Hp) (d:Addr) (f:Cnt) (n:Nat):Prop:=∃ kd,H d=some (.dK kd)/\kd.length<=n/\∀ s:Str,aDc kd (Sum.inr s)=(f s).map fun (n:Nat)=>V.int (n:Int)
theorem KdQ.sm {H G:Hp} {d:Addr} {f:Cnt} {n:Nat} (h:KdQ H d f n) (s:aAm H G):KdQ G d f n:=let ⟨k,a,b⟩:=h; ⟨k,s _ _ a,b⟩
theorem KdQ.put {G:Hp} {d:Addr} {kd:List (Key×V)} {f:Cnt} {nm:Str} {m n:Nat} (hl:kd.length<=n) (h:∀ s:Str,aDc kd (Sum.inr s)=(f s).map fun (n:Nat)=>V.int (n:Int)) (g:G d=some (.dK (aEu kd (Sum.inr nm) (.int (m:Int))))):KdQ G d (aTj f nm m) (n+1):=by
 refine ⟨_,g,by have:=aWl (kvs:=kd) (k:=Sum.inr nm) (v:=.int (m:Int)); omega,fun s=>?_⟩
 rw [aS1]
 unfold aTj
 by_cases e:s=nm
 ·rw [if_pos (by rw [e]),if_pos e]
  rfl
 ·rw [if_neg fun z=>e (Sum.inr.inj z),if_neg e]
  exact h s
noncomputable def bCi (f:Cnt):Prop:=∀ s n,f s=some n->aA3 s=true/\1<=n
theorem aGd {f:Cnt} {ws:List Str} {p:Str×List Str} (h:aCh f ws=some p):ws=("piece":Str)::p.1::p.2/\(1<=p.2.length/\p.2.length<=8)/\(p.1::p.2).all aA3=true/\p.2.Nodup/\f p.1=none:=by
 match ws,h with
 | [],h=>cases h
 | [_],h=>cases h
 | k::nm::ps,h =>
  by_cases c:k="piece"/\(1<=ps.length/\ps.length<=8)/\(nm::ps).all aA3=true/\ps.Nodup/\f nm=none
  ·rw [show aCh f (k::nm::ps)=some (nm,ps) from if_pos c] at h
   have e:=Option.some.inj h
   subst e
   exact ⟨by rw [c.1],c.2⟩
  ·rw [show aCh f (k::nm::ps)=none from if_neg c] at h
   cases h
theorem aVb {n d:Int} (hd:1<=d) (h:Int.gcd n d=1):(mkRat n d.toNat).num=n/\((mkRat n d.toNat).den:Int)=d:=by
 have e:mkRat n d.toNat=⟨n,d.toNat,by omega,by
  have:d=((d.toNat:Nat):Int):=by omega
  rw [this] at h
  exact h⟩:=(Rat.mk_eq_mkRat ..).symm
 rw [e]
 exact ⟨rfl,by show ((d.toNat:Nat):Int)=d; omega⟩
theorem aP6 {ps:List Str} (h:2 < ps.length):tmL ps=none:=by
 match ps,h with
 | _::_::_::_,_=>rfl
theorem aUo {ps:List Str} (h:ps.all aCi=false):tmL ps=none:=by
 match ps,h with
 | [],h=>cases h
 | [a],h =>
  have:aCi a=false:=by simpa using h
  exact if_neg (by rw [this]; decide)
 | [a,b],h =>
  refine if_neg fun z=>?_
  rw [show [a,b].all aCi=true by simp [z.1,z.2.1]] at h
  cases h
 | _::_::_::_,_=>rfl
theorem aR3 (k:Str):(aDc fpK (Sum.inr k)).isSome=(aFr k).isSome:=by
 have h1:∀ s:Str,decide ((Sum.inr s:Key)=Sum.inr k)=decide (k=s):=fun s=>by
  rw [Bool.eq_iff_iff,decide_eq_true_iff,decide_eq_true_iff]
  exact ⟨fun h=>(Sum.inr.inj h).symm,fun h=>by rw [h]⟩
 unfold aDc fpK aFr
 simp only [List.find?_cons,h1,List.find?_nil]
 by_cases e1:k="row"
 ·rw [decide_eq_true e1,if_pos e1]; rfl
 rw [decide_eq_false e1,if_neg e1]
 by_cases e2:k="star"
 ·rw [decide_eq_true e2,if_pos e2]; rfl
 rw [decide_eq_false e2,if_neg e2]
 by_cases e3:k="ring"
 ·rw [decide_eq_true e3,if_pos e3]; rfl
 rw [decide_eq_false e3,if_neg e3]
 rfl
theorem aRt {k:Str} {kd:aFy} (h:aFr k=some kd):k=kd.nm:=by
 unfold aFr at h
 by_cases e1:k="row"
 ·rw [if_pos e1] at h; cases h; exact e1
 rw [if_neg e1] at h
 by_cases e2:k="star"
 ·rw [if_pos e2] at h; cases h; exact e2
 rw [if_neg e2] at h
 by_cases e3:k="ring"
 ·rw [if_pos e3] at h; cases h; exact e3
 rw [if_neg e3] at h
 cases h
theorem aH0:∀ {ps ys:List Str},ys.Nodup->(∀ z,z∈ys->z∈ps)->ps.length<=ys.length->ps.Nodup
 | [],_,_,_,_=>List.nodup_nil
 | p::t,ys,nd,h,hl=>by
  rw [List.length_cons] at hl
  by_cases hp:p∈t
  ·have:=aLr (m:=t) nd fun z hz=>by
    rcases List.mem_cons.mp (h z hz) with rfl | h'
    ·exact hp
    ·exact h'
   omega
  ·refine List.nodup_cons.mpr ⟨hp,aH0 (ys:=ys.erase p) (nd.erase p) (fun z hz=>?_) ?_⟩
   ·have hz':=(List.Nodup.mem_erase_iff nd).mp hz
    rcases List.mem_cons.mp (h z hz'.2) with e | h'
    ·exact absurd e hz'.1
    ·exact h'
   ·rw [List.length_erase]
    split <;> omega
theorem aLt {f:Cnt} {w:List Str} {t:aGt} (hw:aBk f w=some t):∀ {a:List (List Str)} {ts:List aGt},aIl f a=some ts->aIl f (a++[w])=some (ts++[t])
 | [],ts,h=>by
  cases h
  show (match aBk f w with | none=>none | some t=>(aIl f []).map fun ts=>t::ts)=_
  rw [hw]
  rfl
 | x::a,ts,h=>by
  have e:∀ b,aIl f (x::b)=match aBk f x with | none=>none | some t=>(aIl f b).map fun ts=>t::ts:=fun b=>rfl
  rw [e] at h
  rw [List.cons_append,e]
  cases hx:aBk f x with
  | none=>rw [hx] at h; cases h
  | some u =>
   rw [hx] at h
   dsimp only at h ⊢
   cases ha:aIl f a with
   | none=>rw [ha] at h; cases h
   | some us =>
    rw [ha] at h
    cases h
    rw [aLt hw ha]
    rfl
theorem aLu {f:Cnt} {w:List Str} (hw:aBk f w=none):∀ {a:List (List Str)},w∈a->aIl f a=none
 | x::a,h=>by
  have e:∀ b,aIl f (x::b)=match aBk f x with | none=>none | some t=>(aIl f b).map fun ts=>t::ts:=fun b=>rfl
  rw [e]
  rcases List.mem_cons.mp h with rfl | h
  ·rw [hw]
  ·rw [aLu hw h]
   cases aBk f x <;> rfl
theorem aT3 {z:Str} {ws:List Str} (h:ws∈aEj z):ws≠[]/\wt ws<=z.length+1:=by
 obtain ⟨l,hl,rfl⟩:=List.mem_map.mp h
 refine ⟨aDv _ _,?_⟩
 rw [aJh]
 have:=aDw hl
 omega
theorem aRq {ls:List (List Str)} {i b:Nat} {ws:List Str} (hi:ls[i]?=some ws) (hb:ls[b]?=some [("end":Str)]) (hib:i < b):ls.drop i=ws::(ls.drop (i+1)).take (b - i - 1)++[("end":Str)]::ls.drop (b+1):=by
 rw [aEl hi,List.cons_append]
 congr 1
 conv=>lhs; rw [← List.take_append_drop (b - i - 1) (ls.drop (i+1))]
 rw [List.drop_drop,show i+1+(b - i - 1)=b by omega,aEl hb]
section
variable {X:Cx}
noncomputable def aU2:R2:=fun x y H Q=>∃ (c:Nat) (z:Str),x=.str ⟨#[c]⟩/\y=.str z/\Q (.bl (!decide (c∈z.cps.toList))) H
theorem aOl:OpR X (compareOp .NotIn) aU2:=by
 intro pins s σ H x y v u Q I rx ry h
 obtain ⟨c,z,rfl,rfl,q⟩:=h
 refine aLi pins s σ H _ _ _ _ Q I rx ry ⟨_,_,rfl,rfl,?_⟩
 rw [StrLaws.found_one]
 exact q
end
section
variable {Q:VK} {H:Hp} {σ:St} {D:aEx} {K:PySem.W.Frag}
theorem aQu {c:Nat} {z:Str} (k:Q (.bl (!decide (c∈z.cps.toList))) H):aU2 (.str ⟨#[c]⟩) (.str z) H Q:=⟨c,z,rfl,rfl,k⟩
theorem aQw {z:Str} {g:TG} {tb:TS} (Pv:Nat->St->Hp->Prop) (h0:Pv 0 σ H)
  (hs:∀ i c σ H,z.cps.toList[i]?=some c->Pv i σ H->g (.str ⟨#[c]⟩) σ H fun σ2 H2=>tb ⟨Pv (i+1),D.rt,D.nx,Pv (i+1)⟩ σ2 H2) (hd:∀ σ H,Pv z.length σ H->D.nx σ H):aXj g tb D σ (Its z) H:=by
 refine ⟨fun i m σ H=>m=z.length - i/\i<=z.length/\Pv i σ H,⟨z.length,by simp,Nat.zero_le _,h0⟩,?_⟩
 rintro i m σ H ⟨rfl,hi,p⟩
 by_cases hlt:i < z.length
 ·refine .inr ⟨hlt,Pv (i+1),fun σ' H' p'=>⟨z.length - (i+1),by omega,rfl,hlt,p'⟩,fun x H' y=>?_⟩
  obtain ⟨e,c,ec,y⟩:=y
  subst e y
  exact hs i c σ _ (by simpa using ec) p
 ·have e:i=z.length:=by omega
  subst e
  exact .inl ⟨Nat.le_refl _,hd σ H p⟩
noncomputable def aQ7:Option Int->V
 | some i=>.int i
 | none=>.non
theorem r_inZ {p:Addr} {os:List (Option Int)} (h:H p=some (.lst (os.map aQ7))) (k:Q (.bl (os.any (·.isNone))) H):rIn K false .non (.ref p) H Q:=by
 refine ⟨p,_,rfl,.inl (SqL.of h),rfl,?_,?_⟩
 ·rw [List.all_map,List.all_eq_true]
  intro o _
  cases o <;> rfl
 ·have e:inV .non (os.map aQ7)=os.any (·.isNone):=by
   unfold inV
   rw [List.any_map]
   congr 1
   funext o
   cases o <;> rfl
  show Q (.bl (inV .non (os.map aQ7))) H
  rw [e]
  exact k
end
noncomputable def aPr (z:Str):Option Int:=if aCi z=true then some (aBn z) else none
theorem aFt {z:Str} (h:aCi z=false):aPr z=none:=if_neg (by rw [h]; decide)
theorem aFs {z:Str} (h:aCi z=true):aPr z=some (aBn z):=if_pos h
theorem aW9 {a b:Int} (hb:1<=b):(!decide (aGk a b=a/\aF8 a b=b))=!decide (Int.gcd a b=1):=by
 have e:(aGk a b=a/\aF8 a b=b) ↔ Int.gcd a b=1:=⟨fun ⟨h1,h2⟩=>by
  have:=aRm (t:=a) (b:=b) (by omega)
  rw [h1,h2] at this
  exact this,fun h=>aT2 (by omega) h⟩
 rw [decide_eq_decide.mpr e]
section
variable {te:TE} {Q:VK} {H:Hp} {caps:St} {K:PySem.W.Frag}
theorem aOg {c:TT} {a:Addr} {ws:List Str} {p:Str->Bool} (h:H a=some (.lst (ws.map V.str))) (hn:ws.length<=1000000)
  (hc:∀ w∈ws,∀ G (R:Bool->Hp->Prop),(∀ G',aAm G G'->R (p w) G')->c (some (.str w)::caps) G R)
  (ht:∀ w G (R:VK),R (.str w) G->te (some (.str w)::caps) G R)
  (hd:∀ l G,H l=none->aAm H G->G l=some (.lst ((ws.filter p).map V.str))->Q (.ref l) G):aIe te (some c) (aGr 0) (List.replicate 1 none) caps Q (Itl K a) H:=by
 refine aQ1 (xs:=ws.map V.str) (by rw [List.length_map]; exact hn) (fun acc i ys G=>Kp acc H G/\ys=((ws.take i).filter p).map V.str) (fun acc h0=>⟨Kp.new h0,rfl⟩) ?_ ?_ ?_
 ·intro acc i ys G h0 _ ⟨kp,_⟩
  exact SqL.of (kp _ _ (aAg h h0) h)
 ·intro acc i ys G x h0 hx hyl hG ⟨kp,e⟩
  rw [List.getElem?_map] at hx
  cases hy:ws[i]? with
  | none=>rw [hy] at hx; cases hx
  | some y =>
   rw [hy] at hx
   cases (Option.some.inj hx:V.str y=x)
   have hi:i < ws.length:=(List.getElem?_eq_some_iff.mp hy).1
   refine hc y (List.mem_of_getElem? hy) G _ fun G1 s1=>?_
   have hf:(ws.take (i+1)).filter p=(ws.take i).filter p++(if p y=true then [y] else []):=by
    rw [aCr hy,List.filter_append]
    congr 1
    by_cases hp:p y=true
    ·rw [if_pos hp,List.filter_cons_of_pos hp]; rfl
    ·rw [if_neg hp,List.filter_cons_of_neg hp]; rfl
   by_cases hp:p y=true
   ·rw [if_pos hp]
    refine ht _ _ _ ?_
    refine bB0 (by rw [List.length_map]; exact hi) hyl (s1 _ _ hG) ⟨Kp.trans (Kp.trans kp s1.kp) Kp.upd,?_⟩
    rw [hf,if_pos hp,List.map_append,← e]
    rfl
   ·rw [if_neg hp]
    refine bBz (by rw [List.length_map]; exact hi) hyl (s1 _ _ hG) ⟨Kp.trans kp s1.kp,?_⟩
    rw [hf,if_neg hp,List.append_nil]
    exact e
 ·intro acc ys G h0 hG hyl ⟨kp,e⟩
  rw [List.length_map,List.take_length] at e
  subst e
  exact hd acc G h0 (fun b o h=>kp _ _ (aAg h h0) h) hG
end
theorem aR9 {α:Type} {p:α->Bool} {xs:List α} {n:Nat}:(xs.filter p).take n=xs.take n ↔ ∀ x∈xs.take n,p x=true:=by
 constructor
 ·intro e x hx
  rw [← e] at hx
  exact (List.mem_filter.mp (List.mem_of_mem_take hx)).2
 ·intro h
  conv=>lhs; rw [← List.take_append_drop n xs,List.filter_append,List.filter_eq_self.mpr h]
  by_cases hn:n<=xs.length
  ·rw [List.take_append_of_le_length (by rw [List.length_take]; omega),List.take_take,Nat.min_self]
  ·rw [List.drop_eq_nil_of_le (by omega),List.filter_nil,List.append_nil,List.take_take,Nat.min_self]
theorem aLh {z:Str} (h:aA3 z=true):aBx z=true:=by
 unfold aA3 at h
 rw [Bool.and_eq_true,Bool.and_eq_true,decide_eq_true_iff,decide_eq_true_iff] at h
 have hno:46∉z.cps.toList:=fun m=>by
  have:=(List.all_eq_true.mp h.2) 46 m
  exact absurd this (by decide)
 have e:=aG1 z.cps.toList [] 1 0 hno
 rw [List.append_nil] at e
 unfold aBx
 rw [e,h.2,Bool.true_and]
 have hl:=aBt z
 show (decide (1<=4)&&(decide (1<=0+z.cps.toList.length)&&decide (0+z.cps.toList.length<=8)))=true
 rw [← hl,decide_eq_true (show 1<=0+z.length by omega),decide_eq_true (show 0+z.length<=8 by omega)]
 rfl
theorem bB5 {H:Hp} {Q:VK} {i:Int} (k:Q (.bl false) H):aTi .non (.int i) H Q:=.inl ⟨rfl,by rw [show decide (V.non=V.int i)=false from decide_eq_false (by intro z; cases z)]; exact k⟩
end L2
namespace L2
open PySem PySem.Spec PyProof.Rows
section
variable {Q:VK} {H:Hp} {σ:St} {D:aEx} {K:PySem.W.Frag} {v y:V}
theorem aOh {l:Addr} {xs:List V} (h:H l=some (.lst xs)) (hl:xs.length<=1000000) (k:Q .non (upd H l (.lst (xs++[y])))):aMz (.ref l) [y] H Q:=⟨l,xs,y,rfl,rfl,h,aK9 hl,k⟩
theorem r_dPB {p:Addr} {kvs:List (Key×V)} {s:Str} (h:H p=some (.dK kvs)) (hl:kvs.length<=1000000) (k:D.nx σ (upd H p (.dK (aEu kvs (Sum.inr s) v)))):dP D σ v (.ref p) (.str s) H:=⟨p,_,rfl,aX4.k (k:=Sum.inr s) h (aK9 hl),k⟩
theorem aQx {lo:Int} {n:Nat} {g:TG} {tb:TS} (Pv:Nat->St->Hp->Prop) (h0:Pv 0 σ H)
  (hs:∀ (P':Nat->St->Hp->Prop) (bk:St->Hp->Prop),(∀ i σ H,Pv i σ H->P' i σ H)->∀ i σ H,i < n->Pv i σ H->g (.int (lo+i)) σ H fun σ2 H2=>tb ⟨P' (i+1),D.rt,bk,P' (i+1)⟩ σ2 H2) (hd:∀ σ H,Pv n σ H->D.nx σ H):aXj g tb D σ (Itr lo n) H:=aGi Pv h0 (hs Pv D.nx fun _ _ _ h=>h) hd
theorem aMw {a:Addr} {xs:List V} {g:TG} {tb:TS} (Pv:Nat->St->Hp->Prop) (h0:Pv 0 σ H) (hl:∀ i σ H,i<=xs.length->Pv i σ H->SqL K H a xs)
  (hs:∀ (P':Nat->St->Hp->Prop) (bk:St->Hp->Prop),(∀ i σ H,Pv i σ H->P' i σ H)->∀ i x σ H,xs[i]?=some x->Pv i σ H->g x σ H fun σ2 H2=>tb ⟨P' (i+1),D.rt,bk,P' (i+1)⟩ σ2 H2) (hd:∀ σ H,Pv xs.length σ H->D.nx σ H):aXj g tb D σ (Itl K a) H:=aUz Pv h0 hl (hs Pv D.nx fun _ _ _ h=>h) hd
end
noncomputable def rIsXT (K:PySem.W.Frag):List V->Hp->VK->Prop:=fun xs H Q=>∃ (y C p:Addr) (cs:List Addr),xs=[.ref y,.ref p]/\H y=some (aSb y C)/\aO3 K C/\H p=some (.tup (cs.map V.ref))/\(∀ c∈cs,PySem.W.kitOne K (.ref C) (.ref c)=some false)/\Q (.bl false) H
theorem aO2 {K:PySem.W.Frag} {t:Value}:∀ {cs:List Addr},(∀ c∈cs,PySem.W.kitOne K t (.ref c)=some false)->PySem.W.kitAny K t (cs.map Value.ref)=some false
 | [],_=>rfl
 | c::cs,h=>by
  show (match PySem.W.kitOne K t (.ref c) with | some true=>some true | some false=>PySem.W.kitAny K t (cs.map Value.ref) | none=>none)=_
  rw [h c (List.mem_cons_self ..)]
  exact aO2 fun d hd=>h d (List.mem_cons_of_mem _ hd)
theorem aKx:∀ {cs:List Addr} {us:List Value},aB0 (cs.map V.ref) us->us=cs.map Value.ref
 | [],_,.nil=>rfl
 | c::cs,_,.cons r t=>by rw [show _=Value.ref c from r,aKx t]; rfl
theorem aSq {X:Cx}:aDm X (.builtin "isinstance") (rIsXT X.K):=by
 intro pins s σ H xs us Q I r h
 obtain ⟨y,C,p,cs,rfl,hy,z,hp,e,q⟩:=h
 obtain ⟨u,u',rfl,ru,rv⟩:=aB0.two r
 obtain rfl:u=Value.ref y:=ru
 obtain rfl:u'=Value.ref p:=rv
 obtain ⟨_,its,rt,tp⟩:=I.hok p _ hp
 obtain rfl:=aKx rt
 obtain ⟨o,ho,hc,n,hd⟩:=tp
 obtain ⟨oc,od,oo,os⟩:=o
 dsimp only at hc hd
 subst hc hd
 exact PySem.W.kia_tup (aOo z) I.kIn (I.hok y _ hy).1.kitR ho (aO2 e) (by intro q; cases q) fun tk=>⟨.bl false,H,I.tok tk,rfl,q⟩
noncomputable def OpnQ (H:Hp) (lt lr dc:Addr) (i:Nat) (o:V):Option aBf->Hp->Prop
 | none,_=>o=.non
 | some p,G=>∃ li lq lp ys,o=.ref li/\G li=some (.lst [.str p.1,.ref lq,.ref lp])/\G lq=some (.tup (p.2.1.map V.str))/\G lp=some (.lst ys)/\Paired (aBp G) ys p.2.2/\ys.length<=i/\(li≠lr/\li≠dc/\lp≠lr/\lp≠dc/\lp≠lt/\li≠lp/\H lp=none)/\aA3 p.1=true/\1<=p.2.1.length/\p.2.1.length<=8
structure RdI (H:Hp) (L:List Str) (lt lr dc:Addr) (R:Option (List aCp)) (i:Nat) (f:Cnt) (ins:Option aBf) (gs:List aCp) (o:V) (G:Hp):Prop where
 sm:aAm H G
 t:G lt=some (.lst (L.map V.str))
 g:GsQ G lr gs
 gl:gs.length<=i
 k:KdQ G dc f i
 ok:bCi f
 ne:lt≠lr/\lt≠dc/\lr≠dc/\H lr=none/\H dc=none
 io:OpnQ H lt lr dc i o ins G
 eq:LR f ins gs ((L.map fun l=>Txt.split l sp1).drop i)=R
section
variable {H G G':Hp} {L:List Str} {lt lr dc:Addr} {R:Option (List aCp)} {i:Nat} {f:Cnt} {ins:Option aBf} {gs:List aCp} {o:V}
theorem OpnQ.sm {o:V} (h:OpnQ H lt lr dc i o ins G) (s:aAm G G'):OpnQ H lt lr dc i o ins G':=by
 cases ins with
 | none=>exact h
 | some p =>
  obtain ⟨li,lq,lp,ys,e,a1,a2,a3,pr,aDj⟩:=h
  exact ⟨li,lq,lp,ys,e,s _ _ a1,s _ _ a2,s _ _ a3,Pd.imp pr fun _ _ f=>f.tk s.tk,aDj⟩
theorem RdI.same (h:RdI H L lt lr dc R i f ins gs o G) (s:aAm G G'):RdI H L lt lr dc R i f ins gs o G' :=
 ⟨h.sm.trans s,s _ _ h.t,h.g.sm s,h.gl,h.k.sm s,h.ok,h.ne,h.io.sm s,h.eq⟩
theorem aIh {l:Str} (hl:L[i]?=some l):(L.map fun l=>Txt.split l sp1).drop i=Txt.split l sp1::(L.map fun l=>Txt.split l sp1).drop (i+1):=aEl (by rw [List.getElem?_map,hl]; rfl)
theorem KdQ.up {n m:Nat} {d:Addr} (h:KdQ G d f n) (hn:n<=m):KdQ G d f m:=let ⟨k,a,b,c⟩:=h; ⟨k,a,Nat.le_trans b hn,c⟩
theorem RdI.row (h:RdI H L lt lr dc R i f none gs o G) {l:Str} (hl:L[i]?=some l) {t:aGt} (ht:aBk f (Txt.split l sp1)=some t) {v:V} (hv:aBp G v t) {xs:List V} (hx:G lr=some (.lst xs)) (k:Kp lr G G') (tk:TK G G') (hg:G' lr=some (.lst (xs++[v]))):RdI H L lt lr dc R (i+1) f none (gs++[.one t]) o G':=by
 obtain ⟨n1,n2,n3,n4,n5⟩:=h.ne
 obtain ⟨xs',hx',px⟩:=h.g
 rw [hx] at hx'
 cases hx'
 obtain ⟨kd,hk,hkl,hkv⟩:=h.k
 refine ⟨k.sm h.sm n4,k _ _ n1 h.t,⟨_,hg,Pd.snoc (Pd.imp px fun _ _ f=>f.tk tk) (aBp.tk hv tk)⟩,?_,⟨kd,k _ _ (fun e=>n3 e.symm) hk,by omega,hkv⟩,h.ok,h.ne,h.io,?_⟩
 ·rw [List.length_append]; exact Nat.succ_le_succ h.gl
 ·have:=h.eq
  rw [aIh hl,aYc,ht] at this
  exact this
theorem RdI.inrow {p:aBf} (h:RdI H L lt lr dc R i f (some p) gs o G) {l:Str} (hl:L[i]?=some l) {t:aGt} (ht:aBk f (Txt.split l sp1)=some t) {v:V} (hv:aBp G v t) {li lq lp:Addr} {ys:List V} (ho:o=.ref li) (h1:G li=some (.lst [.str p.1,.ref lq,.ref lp])) (hy:G lp=some (.lst ys)) (k:Kp lp G G') (tk:TK G G') (hg:G' lp=some (.lst (ys++[v]))):RdI H L lt lr dc R (i+1) f (some (p.1,p.2.1,p.2.2++[t])) gs o G':=by
 obtain ⟨n1,n2,n3,n4,n5⟩:=h.ne
 obtain ⟨li',lq',lp',ys',e,a1,a2,a3,pr,yl,⟨m1,m2,m3,m4,m5,m6,m7⟩,b1,b2,b3⟩:=h.io
 subst ho
 cases e
 rw [h1] at a1
 cases a1
 rw [hy] at a3
 cases a3
 obtain ⟨kd,hk,hkl,hkv⟩:=h.k
 obtain ⟨xs,hx,px⟩:=h.g
 refine ⟨k.sm h.sm m7,k _ _ (fun e=>m5 e.symm) h.t,⟨xs,k _ _ (fun e=>m3 e.symm) hx,Pd.imp px fun _ _ f=>f.tk tk⟩,Nat.le_succ_of_le h.gl,⟨kd,k _ _ (fun e=>m4 e.symm) hk,by omega,hkv⟩,h.ok,h.ne,⟨li,lq,lp,_,rfl,k _ _ m6 h1,tk _ _ a2,hg,Pd.snoc (Pd.imp pr fun _ _ f=>f.tk tk) (hv.tk tk),?_,⟨m1,m2,m3,m4,m5,m6,m7⟩,b1,b2,b3⟩,?_⟩
 ·rw [List.length_append]; exact Nat.succ_le_succ yl
 ·have:=h.eq
  rw [aIh hl,aYb,ht] at this
  exact this
theorem RdI.begin (h:RdI H L lt lr dc R i f none gs o G) {l:Str} (hl:L[i]?=some l) (ht:aBk f (Txt.split l sp1)=none) {p:Str×List Str} (hb:aCh f (Txt.split l sp1)=some p) (s:aAm G G') {li lq lp:Addr} (f1:G li=none) (f2:G lp=none) (n:li≠lp) (h1:G' li=some (.lst [.str p.1,.ref lq,.ref lp])) (h2:G' lq=some (.tup (p.2.map V.str))) (h3:G' lp=some (.lst [])):RdI H L lt lr dc R (i+1) f (some (p.1,p.2,[])) gs (.ref li) G':=by
 have h':=h.same s
 obtain ⟨b1,⟨b2,b3⟩,b4,b5,b6⟩:=aGd hb
 obtain ⟨xs,hx,px⟩:=h.g
 obtain ⟨kd,hk,hkl,hkv⟩:=h.k
 have b7:=List.all_eq_true.mp b4 p.1 (List.mem_cons_self ..)
 refine ⟨h'.sm,h'.t,h'.g,Nat.le_succ_of_le h.gl,h'.k.up (Nat.le_succ _),h.ok,h.ne,⟨li,lq,lp,[],rfl,h1,h2,h3,.nil,Nat.zero_le _,⟨fun e=>?_,fun e=>?_,fun e=>?_,fun e=>?_,fun e=>?_,n,h.sm.free f2⟩,b7,b2,b3⟩,?_⟩
 ·rw [e,hx] at f1; cases f1
 ·rw [e,hk] at f1; cases f1
 ·rw [e,hx] at f2; cases f2
 ·rw [e,hk] at f2; cases f2
 ·rw [e,h.t] at f2; cases f2
 ·have:=h.eq
  rw [aIh hl,aYc,ht,hb] at this
  exact this
theorem RdI.close {p:aBf} (h:RdI H L lt lr dc R i f (some p) gs o G) {l:Str} (hl:L[i]?=some l) (hw:Txt.split l sp1=[("end":Str)]) (hp:p.2.2≠[]) {v:V} {xs:List V} (hv:aFz G v p) (hx:G lr=some (.lst xs)) {kd:List (Key×V)} (hk:G dc=some (.dK kd)) {G1:Hp} (k1:Kp lr G G1) (t1:TK G G1) (g1:G1 lr=some (.lst (xs++[v]))) (k2:Kp dc G1 G') (t2:TK G1 G') (g2:G' dc=some (.dK (aEu kd (Sum.inr p.1) (.int (p.2.1.length:Int))))):RdI H L lt lr dc R (i+1) (aTj f p.1 p.2.1.length) none (gs++[.piece p]) .non G':=by
 obtain ⟨n1,n2,n3,n4,n5⟩:=h.ne
 obtain ⟨li',lq',lp',ys',e,a1,a2,a3,pr,yl,m,b1,b2,b3⟩:=h.io
 obtain ⟨kd',hk',hkl,hkv⟩:=h.k
 rw [hk] at hk'
 cases hk'
 obtain ⟨xs',hx',px⟩:=h.g
 rw [hx] at hx'
 cases hx'
 have tk:=t1.trans t2
 refine ⟨k2.sm (k1.sm h.sm n4) n5,k2 _ _ n2 (k1 _ _ n1 h.t),⟨_,k2 _ _ n3 g1,Pd.snoc (Pd.imp px fun _ _ f=>f.tk tk) (aEw.tk (r:=.piece p) hv tk)⟩,?_,KdQ.put hkl hkv g2,?_,h.ne,rfl,?_⟩
 ·rw [List.length_append]; exact Nat.succ_le_succ h.gl
 ·intro s n hs
  unfold aTj at hs
  by_cases e:s=p.1
  ·rw [if_pos e] at hs
   cases hs
   exact ⟨by rw [e]; exact b1,b2⟩
  ·rw [if_neg e] at hs
   exact h.ok s n hs
 ·have:=h.eq
  rw [aIh hl,aYb,hw,aLg,if_pos ⟨rfl,hp⟩] at this
  exact this
theorem RdI.bad (h:RdI H L lt lr dc R i f ins gs o G) {l:Str} (hl:L[i]?=some l) (ht:aBk f (Txt.split l sp1)=none) (hb:ins=none->aCh f (Txt.split l sp1)=none) (he:∀ p,ins=some p->Txt.split l sp1=[("end":Str)]->p.2.2=[]):R=none:=by
 have e:=h.eq
 rw [aIh hl] at e
 cases ins with
 | none=>rw [aYc,ht,hb rfl] at e; exact e.symm
 | some p =>
  rw [aYb,ht] at e
  dsimp only at e
  rw [if_neg fun z=>z.2 (he p rfl z.1)] at e
  exact e.symm
theorem LR_0 (f:Cnt) (gs:List aCp):LR f none gs []=some gs:=by rw [LR]
theorem LR_1 (f:Cnt) (p:aBf) (gs:List aCp):LR f (some p) gs []=none:=by rw [LR]
theorem RdI.done (h:RdI H L lt lr dc R L.length f ins gs o G):R=match ins with | none=>some gs | some _=>none:=by
 have e:=h.eq
 rw [List.drop_eq_nil_of_le (by rw [List.length_map]; exact Nat.le_refl _)] at e
 cases ins with
 | none=>rw [LR_0] at e; exact e.symm
 | some p=>rw [LR_1] at e; exact e.symm
end
theorem aL8 {xs:List V} (n:Nat):aDs xs (some (n:Int)) none=xs.drop n:=by
 by_cases h:n<=xs.length
 ·exact aCw n h
 ·rw [List.drop_eq_nil_of_le (by omega)]
  apply List.eq_nil_of_length_eq_zero
  unfold aDs
  have e:HT.sIx xs.length 0 (some (n:Int))=xs.length:=by
   rw [HT.sIx_nat]
   omega
  rw [e,List.drop_length,List.take_nil]
  rfl
noncomputable def smL (ws:List Str):Nat:=(ws.map (·.length)).sum
theorem aF2:∀ {ws:List Str} {i:Nat} {x:Str} (y:Str),ws[i]?=some x->smL (ws.set i y)+x.length=smL ws+y.length
 | w::ws,0,x,y,h=>by
  obtain rfl:w=x:=by simpa using h
  show ((y::ws).map (·.length)).sum+_=((w::ws).map (·.length)).sum+_
  simp only [List.map_cons,List.sum_cons]
  omega
 | w::ws,i+1,x,y,h=>by
  have ih:=aF2 (ws:=ws) (i:=i) (x:=x) y (by simpa using h)
  unfold smL at ih ⊢
  simp only [List.set_cons_succ,List.map_cons,List.sum_cons] at ih ⊢
  omega
theorem aS6 {z:Str} {i j:Nat} {x y:Str} (hi:(Txt.split z sp3)[i]?=some x) (hj:(Txt.split z sp3)[j]?=some y):(Str.join sp3 (((Txt.split z sp3).set i y).set j x)).length=z.length:=by
 have h1:=StrLaws.join_split z sp3
 have hn:=aDv z sp3
 generalize Txt.split z sp3=L at hi hj h1 hn ⊢
 have a1:=aF2 y hi
 have a2:((L.set i y))[j]?=some y:=by
  rw [List.getElem?_set]
  by_cases e:i=j
  ·rw [if_pos e,if_pos (List.getElem?_eq_some_iff.mp hi).1]
  ·rw [if_neg e]; exact hj
 have a3:=aF2 x a2
 have b1:=aH6 (ws:=L) sp3 hn
 have b2:=aH6 (ws:=(L.set i y).set j x) sp3 (fun e=>hn (by
  have:=congrArg List.length e
  rw [List.length_set,List.length_set] at this
  exact List.eq_nil_of_length_eq_zero this))
 rw [List.length_set,List.length_set] at b2
 rw [h1] at b1
 unfold smL at a1 a3
 omega
theorem aNr {ws:List Str} {n m:Nat} (h:n<=m):wt (ws.take n++ws.drop m)<=wt ws:=by
 have e:=aGf (ws.take n) (ws.drop n)
 rw [List.take_append_drop] at e
 rw [aGf]
 have:wt (ws.drop m)<=wt (ws.drop n):=by
  rw [show m=n+(m - n) by omega,← List.drop_drop]
  exact aVs _ _
 omega
theorem aKv {ws:List Str} {n m:Nat} {w:Str} (h:n<=m):wt (ws.take n++[w]++ws.drop m)<=wt ws+w.length+1:=by
 have:=aNr (ws:=ws) h
 rw [aGf] at this
 rw [aGf,aGf,aBd,aIr]
 omega
theorem aFm {s:Str} (h:aA3 s=true):s.length<=8:=by
 unfold aA3 at h
 rw [Bool.and_eq_true,Bool.and_eq_true,decide_eq_true_iff,decide_eq_true_iff] at h
 exact h.1.2
theorem NS.bl {K:PySem.W.Frag} {H:Hp} (b:Bool):NS K H (.bl b):=⟨_,.bl b,aL1⟩
theorem NS.tup {K:PySem.W.Frag} {H:Hp} {p:Addr} {xs:List V} (h:H p=some (.tup xs)):NS K H (.ref p):=⟨_,.tup h,aKg⟩
noncomputable def shB:V->Bool
 | .str w=>decide (w.length<=30)
 | _=>false
theorem aVy {v:V} (h:shB v=true):∃ w,v=.str w/\w.length<=30:=by
 cases v with
 | str w=>exact ⟨w,rfl,of_decide_eq_true h⟩
 | _=>exact absurd (show false=true from h) Bool.false_ne_true
theorem aVz {U:List Str} (h:∀ s∈U,s.length<=30):(U.map V.str).all shB=true:=by
 rw [List.all_eq_true]
 intro v hv
 obtain ⟨s,hs,rfl⟩:=List.mem_map.mp hv
 exact decide_eq_true (h s hs)
theorem aQv {Q:VK} {H:Hp} {xs:List V} (hs:(xs.all shB&&decide (xs.length<=16))=true) (hk:∀ l G (ys:List V),ys.all shB=true->ys.length<=16->aAm H G->G l=some (.lst ys)->Q (.ref l) G):bBg Q xs H:=by
 rw [Bool.and_eq_true,decide_eq_true_iff] at hs
 exact aA2 (h:=by omega) fun l hl=>hk l _ xs hs.1 hs.2 (aAm.new hl) aAd
section
variable {K:PySem.W.Frag} {H:Hp} {Q:VK}
theorem aPb {l:Addr} {ws us:List Str} {lo hi:Option Int} (h:H l=some (.lst (ws.map V.str))) (e:aDs (ws.map V.str) lo hi=us.map V.str) (k:∀ l' G,aAm H G->G l'=some (.lst (us.map V.str))->Q (.ref l') G):aX6 K (.ref l) lo hi H Q :=
 aEb h fun l' hl'=>k l' _ (aAm.new hl') (by rw [aAd,e])
theorem aPu {p q:Addr} {xs ys:List Str} (h1:H p=some (.lst (xs.map V.str))) (h2:H q=some (.lst (ys.map V.str))) (hl:xs.length+ys.length<=1000000) (k:∀ l G,aAm H G->G l=some (.lst ((xs++ys).map V.str))->Q (.ref l) G):aIp K (.ref p) (.ref q) H Q :=
 aGm h1 h2 (by rw [List.length_map,List.length_map]; exact hl) fun l hl=>k l _ (aAm.new hl) (by rw [aAd,List.map_append])
theorem aOe {w:Str} (k:∀ l G,aAm H G->G l=some (.lst ([w].map V.str))->Q (.ref l) G):bBg Q [.str w] H:=aA2 fun l hl=>k l _ (aAm.new hl) aAd
theorem aY9 {w:Str} {k:Int} {l:Addr} (h:H l=some (.lst ([w].map V.str))) (h0:0<=k) (h1:k<=1000) (kk:∀ p G,aAm H G->G p=some (.lst ((List.replicate k.toNat w).map V.str))->Q (.ref p) G):rRep (.ref l) (.int k) H Q:=by
 refine ⟨l,k,_,rfl,rfl,h,by omega,by omega,?_,fun p hp=>kk p _ (aAm.new hp) ?_⟩
 ·show 1 * k.toNat<=_
  rw [sizeLine_eq]
  omega
 ·rw [aAd,List.map_replicate]
  show some (HO.lst (List.replicate k.toNat [V.str w]).flatten)=_
  rw [List.flatten_replicate_singleton]
theorem aZk {a b c:Str} (k:∀ l G,aAm H G->G l=some (.lst ([a,b,c].map V.str))->Q (.ref l) G):bBg Q [.str a,.str b,.str c] H:=aA2 fun l hl=>k l _ (aAm.new hl) aAd
theorem aXz {x y:Str} (hl:x.length+y.length<=1000) (k:∀ z,z.length=x.length+y.length->Q (.str z) H):aIp K (.str x) (.str y) H Q:=a_str hl (k _ (aCc x y))
end
end L2
namespace Lw
open PySem L2
set_option compiler.extract_closed false
set_option hygiene false
local macro_rules | `(tactic| walk_at "st") => `(tactic| first
  | with_reducible assumption
  | ((with_reducible refine St3.new ?_ ?hn); (case hn => with_reducible assumption); walk_at "st"))
local macro_rules | `(tactic| walk_at "kp") => `(tactic| first
  | with_reducible assumption
  | with_reducible exact Kp.refl _ _
  | ((with_reducible refine Kp.trans ?_ (Kp.new ?hn)); (case hn => with_reducible assumption); walk_at "kp"))
local macro_rules | `(tactic| walk_at "sm") => `(tactic| first
  | with_reducible assumption
  | with_reducible exact aAm.refl _
  | ((with_reducible refine aAm.trans ?_ (aAm.new ?hn)); (case hn => with_reducible assumption); walk_at "sm"))
local macro_rules | `(tactic| walk_at "hp") => `(tactic| first
  | with_reducible assumption
  | with_reducible exact aAd
  | ((with_reducible refine aMk ?hn ?_); (case hn => with_reducible assumption); walk_at "hp")
  | ((with_reducible refine upd_not ?hn ?_); (case hn => first | with_reducible assumption | (refine Ne.symm ?_; with_reducible assumption)); walk_at "hp")
  | ((with_reducible refine aAm.app ?hn ?_); (case hn => with_reducible assumption); walk_at "hp")
  | ((with_reducible refine Kp.app ?hk ?hn ?_); (case hk => with_reducible assumption); (case hn => first | with_reducible assumption | (refine Ne.symm ?_; with_reducible assumption)); walk_at "hp"))
local macro_rules | `(tactic| walk_at "tk") => `(tactic| first
  | with_reducible exact TK.refl _
  | with_reducible assumption
  | ((with_reducible refine TK.trans ?_ (TK.new ?hn)); (case hn => with_reducible assumption); walk_at "tk")
  | ((with_reducible refine TK.trans ?_ (TK.lst ?hn)); (case hn => walk_at "hp"); walk_at "tk")
  | ((with_reducible refine TK.trans ?_ (TK.dic ?hn)); (case hn => walk_at "hp"); walk_at "tk")
  | ((with_reducible refine TK.trans ?_ (TK.frz ?hn)); (case hn => walk_at "hp"); walk_at "tk")
  | ((with_reducible refine TK.trans ?_ TK.melt); walk_at "tk")
  | ((with_reducible refine TK.trans ?_ (aAm.tk ?hn)); (case hn => with_reducible assumption); walk_at "tk")
  | ((with_reducible refine TK.trans ?_ (St3.tk ?hs ?hn)); (case hn => with_reducible assumption); (case hs => with_reducible assumption); walk_at "tk"))
local macro_rules | `(tactic| walk_at "fq") => `(tactic| first
  | with_reducible assumption
  | ((with_reducible refine FrQ.tk ?fa ?ft); (case fa => with_reducible assumption); (case ft => walk_at "tk")))
local macro_rules | `(tactic| walk_at "go1") => `(tactic| first
  | with_reducible refine aMt ?_
  | ((with_reducible refine r_nxD ?_); (with_reducible refine aUy ?_))
  | ((with_reducible refine r_rtD ?_); (with_reducible refine r_rt ?_))
  | ((with_reducible refine r_bkD ?_); (with_reducible refine r_bk ?_))
  | ((with_reducible refine r_ctD ?_); (with_reducible refine r_ct ?_))
  | with_reducible refine r_asg ?_
  | with_reducible refine aMv ?_
  | ((with_reducible refine' r_var ?rv ?_); case rv => exact rfl)
  | with_reducible refine r_c ?_
  | with_reducible refine r_op ?_
  | with_reducible refine r_un ?_
  | with_reducible refine r_I0 ?_
  | with_reducible refine r_U ?_
  | with_reducible refine a_int ?_
  | with_reducible refine r_sl ?_
  | with_reducible refine aZa ?_
  | with_reducible refine aV7 ?_
  | with_reducible refine aTf ?_
  | ((with_reducible refine aZj ?mc ?_); case mc => first | decide | omega)
  | ((with_reducible refine aZi ?mc ?_); case mc => first | decide | omega)
  | ((with_reducible refine r_mul ?mc ?_); case mc => first | exact aGe.r (by decide) (by decide) | exact aGe.l (by decide) (by decide) | exact aGe.l (by omega) (by omega) | exact aGe.r (by omega) (by omega))
  | ((with_reducible refine aQy ?mc ?_); case mc => first | exact aMh.of (by decide) (by decide) | exact aMh.of (by omega) (by omega))
  | with_reducible refine aV6 ?_
  | with_reducible refine r_pow9 ?_
  | with_reducible refine aY5 ?_
  | with_reducible refine r_tB ?_
  | with_reducible refine r_bK ?_
  | with_reducible refine r_ifS ?_
  | with_reducible refine r_if ?_
  | with_reducible refine r_and ?_
  | with_reducible refine r_or ?_
  | with_reducible refine r_not ?_
  | with_reducible refine bAe ?_
  | with_reducible refine r_orV ?_
  | with_reducible refine aZc ?_
  | with_reducible refine bAf ?_
  | with_reducible refine r_orK ?_
  | with_reducible refine aZd ?_
  | with_reducible refine r_ret ?_
  | with_reducible refine r_retN ?_
  | with_reducible refine aZh ?_
  | with_reducible refine aZ2 ?_
  | with_reducible refine r_nil ?_
  | with_reducible refine aZ7 ?_
  | with_reducible refine r_tup ?_
  | with_reducible refine r_lst ?_
  | with_reducible refine bAd ?_
  | with_reducible refine r_callD ?_
  | with_reducible refine r_callK ?_
  | with_reducible refine r_lrng ?_
  | with_reducible refine aZy ?_
  | with_reducible refine r_rngD ?_
  | with_reducible refine r_CB ?_
  | with_reducible refine aZ5 ?_
  | with_reducible refine r_din ?_
  | with_reducible refine aZ4 ?_
  | with_reducible refine aZ3 ?_
  | with_reducible refine aWe ?_
  | with_reducible refine r_dget2 ?_
  | with_reducible refine r_dpop1 ?_
  | with_reducible refine r_bm ?_
  | with_reducible refine r_bm0 ?_
  | with_reducible refine r_bmS ?_
  | with_reducible refine aWb ?_
  | with_reducible refine aZ0 ?_
  | with_reducible refine r_iEnum ?_
  | with_reducible refine r_tru ?_
  | with_reducible refine r_orT ?_
  | with_reducible refine r_cont ?_
  | with_reducible refine r_break ?_
  | with_reducible refine aZu ?_
  | with_reducible refine aZv ?_
  | with_reducible refine r_isNs ?_
  | with_reducible refine r_isNi ?_
  | with_reducible refine r_isNk ?_
  | with_reducible refine aZe ?_
  | with_reducible refine aZf ?_
  | with_reducible refine r_noNs ?_
  | ((with_reducible refine' r_bmL ?ih ?_); (case ih => walk_at "hp"))
  | ((with_reducible refine' r_bmD ?ih ?_); (case ih => walk_at "hp"))
  | ((with_reducible refine' r_bm0D ?ih ?_); (case ih => walk_at "hp"))
  | ((with_reducible refine' aWa ?ih ?_); (case ih => walk_at "hp"))
  | ((with_reducible refine' r_gtup3 ?ih ?_); (case ih => walk_at "hp"))
  | ((with_reducible refine' r_gtup4 ?ih ?_); (case ih => walk_at "hp"))
  | with_reducible refine r_par ?_
  | with_reducible refine aZb ?_
  | with_reducible refine e_int ?_
  | with_reducible refine n_int ?_
  | with_reducible refine e_bl ?_
  | with_reducible refine n_bl ?_
  | with_reducible refine e_str ?_
  | with_reducible refine n_str ?_
  | with_reducible refine r_isB ?_
  | with_reducible refine r_isNB ?_
  | with_reducible refine aZz ?_
  | with_reducible refine r_abs ?_
  | with_reducible refine r_max ?_
  | with_reducible refine r_min ?_
  | with_reducible refine aZw ?_
  | with_reducible refine r_for ?_
  | with_reducible refine aZ8 ?_
  | with_reducible refine aY8 ?_
  | with_reducible refine aY7 ?_
  | with_reducible refine aV9 ?_
  | ((with_reducible refine' aZl ?ih ?_); (case ih => walk_at "hp"))
  | ((with_reducible refine' aZm ?ih ?_); (case ih => walk_at "hp"))
  | ((with_reducible refine' aZq ?ih ?ie ?_); (case ih => walk_at "hp"); (case ie => exact rfl))
  | ((with_reducible refine' aBa ?ih ?ie ?_); (case ih => walk_at "hp"); (case ie => exact rfl))
  | with_reducible refine r_dmN ?_
  | with_reducible refine r_dmR ?_
  | with_reducible refine i_sN ?_
  | with_reducible refine i_sS ?_
  | with_reducible refine i_T ?_
  | with_reducible refine i_F ?_
  | with_reducible refine bBt ?_
  | ((with_reducible refine i_dT ?dc ?_); case dc => omega)
  | ((with_reducible refine i_dF ?dc ?_); case dc => omega))
local macro_rules | `(tactic| walk_at "go") => `(tactic| repeat (walk_at "go1"))
local macro_rules | `(tactic| walk_at "gos") => `(tactic| repeat ((fail_if_success (with_reducible refine aMt ?_)); walk_at "go1"))
set_option hygiene true
local macro_rules | `(tactic| walk_at "go1") => `(tactic| first
  | with_reducible refine r_try ?_
  | with_reducible refine aV3 ?_
  | with_reducible refine r_xset ?_
  | with_reducible refine r_xret ?_
  | with_reducible refine aWh ?_
  | with_reducible refine r_callXD ?_
  | with_reducible refine r_callH ?_
  | with_reducible refine aV5 ?_
  | with_reducible refine r_rng1H ?_)
theorem el_n {P:List Value->Prop} (h:P []):∀ us:List Value,us.length=0->P us:=fun us e=>(List.length_eq_zero_iff.mp e).symm ▸ h
theorem aX8 {n:Nat} {P:List Value->Prop} (h:∀ a us,us.length=n->P (a::us)):∀ us:List Value,us.length=n+1->P us:=fun us=>List.casesOn (motive:=fun us=>us.length=n+1->P us) us (fun e=>absurd e (Nat.succ_ne_zero n).symm) fun a us e=>h a us (Nat.succ.inj e)
theorem aIc {P:List Value->Prop} (h:∀ a0,P [a0]):∀ us:List Value,us.length=1->P us:=aX8 fun a0=>el_n (h a0)
theorem aKu {P:List Value->Prop} (h:∀ a0 a1,P [a0,a1]):∀ us:List Value,us.length=2->P us:=aX8 fun a0=>aX8 fun a1=>el_n (h a0 a1)
theorem aX9 {P:List Value->Prop} (h:∀ a0 a1 a2,P [a0,a1,a2]):∀ us:List Value,us.length=3->P us:=aX8 fun a0=>aX8 fun a1=>aX8 fun a2=>el_n (h a0 a1 a2)
noncomputable def top (i:Nat):Stmt:=PySem.Challenge.pw_tilefall_k72_no_rows.main.body.getD i (.Pass ⟨0,0,0,0⟩)
local macro_rules | `(tactic| walk_at "go1") => `(tactic| first
  | with_reducible refine aWg ?_
  | with_reducible refine bAc ?_
  | with_reducible refine bAb ?_
  | with_reducible refine bAa ?_
  | with_reducible refine aZ9 ?_
  | with_reducible refine aZx ?_
  | with_reducible refine aTh ?_)
local macro_rules | `(tactic| walk_at "go1") => `(tactic| first
  | with_reducible refine r_jn ?_
  | with_reducible refine r_fmt ?_
  | with_reducible refine r_jn0 ?_
  | ((with_reducible refine r_jnK ?jy ?_); case jy => first | omega | decide +kernel))
local macro_rules | `(tactic| walk_at "go1") => `(tactic| first
  | rw [if_pos (show (_ == _) = true by decide +kernel)]
  | rw [if_neg (show ¬ (_ == _) = true by decide +kernel)]
  | with_reducible refine r_iEnumT ?_)
local macro_rules | `(tactic| walk_at "go1") => `(tactic| first
  | with_reducible refine r_jx ?_
  | with_reducible refine r_jx0 ?_
  | with_reducible refine r_fms ?_
  | with_reducible refine r_bmu ?_
  | ((with_reducible refine' r_bmuK ?ih ?_); (case ih => walk_at "hp")))
local macro_rules | `(tactic| walk_at "go1") => `(tactic| first
  | with_reducible refine aZo ?_
  | with_reducible refine r_kin ?_)
structure XmS (mg:Str->Option Value) (xt x0 x1 x4 x5 x10:Addr):Prop where
 t:mg "TileError"=some (.ref xt)
 m_NoNumber:mg "NoNumber"=some (.ref x0)
 m_NoNet:mg "NoNet"=some (.ref x1)
 m_TooMany:mg "TooMany"=some (.ref x4)
 m_NoText:mg "NoText"=some (.ref x5)
 m_NoRow:mg "NoRow"=some (.ref x10)
 zV:mg "ValueError"=none
structure XrS (K:PySem.W.Frag) (xt x0 x1 x4 x5 x10 C:Addr) (i:Nat):Prop where
 x:aO3 K C
 e:XrE K C
 v:PySem.W.kitOne K (.ref C) (.type "ValueError")=some true
 t:PySem.W.exmOne K (.ref C) (.ref xt)=some true
 k0:PySem.W.kitOne K (.ref C) (.ref x0)=some (Nat.beq 0 i)
 k1:PySem.W.kitOne K (.ref C) (.ref x1)=some (Nat.beq 1 i)
 k4:PySem.W.kitOne K (.ref C) (.ref x4)=some (Nat.beq 4 i)
 k5:PySem.W.kitOne K (.ref C) (.ref x5)=some (Nat.beq 5 i)
 k10:PySem.W.kitOne K (.ref C) (.ref x10)=some (Nat.beq 10 i)
noncomputable abbrev aF3:Stmt:=top 8
theorem aMn:aAv ["thing"] ["thing"] (aAh aF3):=⟨rfl,rfl,rfl,by decide +kernel,rfl,by decide +kernel,by decide +kernel⟩
noncomputable abbrev aCz:Stmt:=top 9
theorem aB8:aAv ["one","other","rest"] ["one","other"] (aAh aCz):=⟨rfl,rfl,rfl,by decide +kernel,rfl,by decide +kernel,by decide +kernel⟩
noncomputable abbrev aD1:Stmt:=top 10
theorem aIo:aAv ["thing"] ["thing"] (aAh aD1):=⟨rfl,rfl,rfl,by decide +kernel,rfl,by decide +kernel,by decide +kernel⟩
noncomputable abbrev aDg:Stmt:=top 14
theorem aJr:aAv ["word","most"] ["word","most"] (aAh aDg):=⟨rfl,rfl,rfl,by decide +kernel,rfl,by decide +kernel,by decide +kernel⟩
noncomputable abbrev aDz:Stmt:=top 15
theorem aEa:aAv ["word","parts","time"] ["word"] (aAh aDz):=⟨rfl,rfl,rfl,by decide +kernel,rfl,by decide +kernel,by decide +kernel⟩
noncomputable abbrev aFh:Stmt:=top 20
theorem aO9:aAv ["text"] ["text"] (aAh aFh):=⟨rfl,rfl,rfl,by decide +kernel,rfl,by decide +kernel,by decide +kernel⟩
noncomputable abbrev aFg:Stmt:=top 21
theorem aI1:aAv ["thing","parts"] ["thing"] (aAh aFg):=⟨rfl,rfl,rfl,by decide +kernel,rfl,by decide +kernel,by decide +kernel⟩
noncomputable abbrev aC6:Stmt:=top 26
theorem aD4:aAv ["holds","words","row"] ["holds","words"] (aAh aC6):=⟨rfl,rfl,rfl,by decide +kernel,rfl,by decide +kernel,by decide +kernel⟩
noncomputable abbrev aEs:Stmt:=top 27
theorem aMm:aAv ["words","told"] ["words","told"] (aAh aEs):=⟨rfl,rfl,rfl,by decide +kernel,rfl,by decide +kernel,by decide +kernel⟩
noncomputable abbrev aHn:Stmt:=top 28
theorem aI0:aAv ["words","word","time"] ["words","word"] (aAh aHn):=⟨rfl,rfl,rfl,by decide +kernel,rfl,by decide +kernel,by decide +kernel⟩
noncomputable abbrev aJt:Stmt:=top 29
theorem aLd:aAv ["words","posts"] ["words"] (aAh aJt):=⟨rfl,rfl,rfl,by decide +kernel,rfl,by decide +kernel,by decide +kernel⟩
noncomputable abbrev aDh:Stmt:=top 30
theorem aHh:aAv ["words"] ["words"] (aAh aDh):=⟨rfl,rfl,rfl,by decide +kernel,rfl,by decide +kernel,by decide +kernel⟩
noncomputable abbrev aJu:Stmt:=top 31
theorem aQo:aAv ["words","counts"] ["words","counts"] (aAh aJu):=⟨rfl,rfl,rfl,by decide +kernel,rfl,by decide +kernel,by decide +kernel⟩
noncomputable abbrev aDi:Stmt:=top 32
theorem aHi:aAv ["words","counts"] ["words","counts"] (aAh aDi):=⟨rfl,rfl,rfl,by decide +kernel,rfl,by decide +kernel,by decide +kernel⟩
noncomputable abbrev aDp:Stmt:=top 33
theorem aE1:aAv ["lines","counts","words","params"] ["lines","counts"] (aAh aDp):=⟨rfl,rfl,rfl,by decide +kernel,rfl,by decide +kernel,by decide +kernel⟩
noncomputable abbrev aEc:Stmt:=top 34
theorem aFd:aAv ["lines","place","later"] ["lines","place"] (aAh aEc):=⟨rfl,rfl,rfl,by decide +kernel,rfl,by decide +kernel,by decide +kernel⟩
noncomputable abbrev aEt:Stmt:=top 35
theorem aHl:aAv ["text","lines"] ["text"] (aAh aEt):=⟨rfl,rfl,rfl,by decide +kernel,rfl,by decide +kernel,by decide +kernel⟩
noncomputable abbrev aE3:Stmt:=top 36
theorem aBq:aAv ["text","lines","rows","counts","place","end","piece"] ["text"] (aAh aE3):=⟨rfl,rfl,rfl,by decide +kernel,rfl,by decide +kernel,by decide +kernel⟩
noncomputable abbrev aHr:Stmt:=top 38
theorem aPa:aAv ["_law_script","_law_k"] ["_law_script","_law_k"] (aAh aHr):=⟨rfl,rfl,rfl,by decide +kernel,rfl,by decide +kernel,by decide +kernel⟩
noncomputable abbrev aJv:Stmt:=top 39
theorem aDn:aAv ["_law_script","_law_k","_law_cell","_law_one","_law_two","_law_three","_law_number_here"] ["_law_script","_law_k"] (aAh aJv):=⟨rfl,rfl,rfl,by decide +kernel,rfl,by decide +kernel,by decide +kernel⟩
noncomputable abbrev aJx:Stmt:=top 40
theorem aFc:aAv ["_law_top","_law_bottom","_law_one","_law_other"] ["_law_top","_law_bottom"] (aAh aJx):=⟨rfl,rfl,rfl,by decide +kernel,rfl,by decide +kernel,by decide +kernel⟩
noncomputable abbrev aJw:Stmt:=top 41
theorem aFb:aAv ["_law_script","_law_letters","_law_number_here","_law_before","_law_behind"] ["_law_script"] (aAh aJw):=⟨rfl,rfl,rfl,by decide +kernel,rfl,by decide +kernel,by decide +kernel⟩
noncomputable abbrev aOa:Stmt:=top 42
theorem aJq:aAv ["_law_number_here","_law_names_here","_law_kind","_law_first","_law_more"] ["_law_number_here","_law_names_here"] (aAh aOa):=⟨rfl,rfl,rfl,by decide +kernel,rfl,by decide +kernel,by decide +kernel⟩
noncomputable abbrev aQq:Stmt:=top 43
theorem aJo:aAv ["_law_number_here","_law_most","_law_bottom"] ["_law_number_here"] (aAh aQq):=⟨rfl,rfl,rfl,by decide +kernel,rfl,by decide +kernel,by decide +kernel⟩
noncomputable abbrev aMp:Stmt:=top 44
theorem aGz:aAv ["_law_number_here","_law_names_here","_law_many","_law_found","_law_k"] ["_law_number_here","_law_names_here","_law_many"] (aAh aMp):=⟨rfl,rfl,rfl,by decide +kernel,rfl,by decide +kernel,by decide +kernel⟩
noncomputable abbrev aMq:Stmt:=top 45
theorem aCs:aAv ["_law_number_here","_law_names_here","_law_kind","_law_many","_law_posts_here","_law_more","_law_k","_law_time_here"] ["_law_number_here","_law_names_here"] (aAh aMq):=⟨rfl,rfl,rfl,by decide +kernel,rfl,by decide +kernel,by decide +kernel⟩
noncomputable abbrev aV0:Stmt:=top 46
theorem aN7:aAv ["_law_number_here","_law_names_here","_law_known","_law_name","_law_many"] ["_law_number_here","_law_names_here","_law_known"] (aAh aV0):=⟨rfl,rfl,rfl,by decide +kernel,rfl,by decide +kernel,by decide +kernel⟩
noncomputable abbrev aJz:Stmt:=top 47
theorem aFe:aAv ["_law_state","_law_name","_law_params","_law_some"] ["_law_state"] (aAh aJz):=⟨rfl,rfl,rfl,by decide +kernel,rfl,by decide +kernel,by decide +kernel⟩
noncomputable abbrev aE2:Stmt:=top 50
theorem aLc:aAv ["_law_time_here"] ["_law_time_here"] (aAh aE2):=⟨rfl,rfl,rfl,by decide +kernel,rfl,by decide +kernel,by decide +kernel⟩
noncomputable abbrev aDy:Stmt:=top 51
theorem aCx:aAv ["_law_row_here","_law_texts","_law_one"] ["_law_row_here"] (aAh aDy):=⟨rfl,rfl,rfl,by decide +kernel,rfl,by decide +kernel,by decide +kernel⟩
noncomputable abbrev aLe:Stmt:=top 48
theorem aHk:aAv ["_law_number_here","_law_state","_law_names_here","_law_name","_law_inside","_law_many","_law_row_here"] ["_law_number_here","_law_state","_law_names_here"] (aAh aLe):=⟨rfl,rfl,rfl,by decide +kernel,rfl,by decide +kernel,by decide +kernel⟩
noncomputable abbrev aMs:Stmt:=top 49
theorem aG0:aAv ["_law_script","_law_first","_law_end","_law_names_here","_law_state","_law_k"] ["_law_script","_law_first","_law_end"] (aAh aMs):=⟨rfl,rfl,rfl,by decide +kernel,rfl,by decide +kernel,by decide +kernel⟩
noncomputable abbrev aQr:Stmt:=top 52
theorem aJp:aAv ["_law_rows","_law_texts","_law_row_here"] ["_law_rows"] (aAh aQr):=⟨rfl,rfl,rfl,by decide +kernel,rfl,by decide +kernel,by decide +kernel⟩
noncomputable abbrev aHp:Stmt:=top 53
theorem aI2:aAv ["_law_word_here","_law_sign"] ["_law_word_here"] (aAh aHp):=⟨rfl,rfl,rfl,by decide +kernel,rfl,by decide +kernel,by decide +kernel⟩
noncomputable abbrev aD0:Stmt:=top 54
theorem aGh:aAv ["_law_word_here","_law_parts"] ["_law_word_here"] (aAh aD0):=⟨rfl,rfl,rfl,by decide +kernel,rfl,by decide +kernel,by decide +kernel⟩
noncomputable abbrev aHq:Stmt:=top 55
theorem aI3:aAv ["_law_word_here","_law_sign"] ["_law_word_here"] (aAh aHq):=⟨rfl,rfl,rfl,by decide +kernel,rfl,by decide +kernel,by decide +kernel⟩
noncomputable abbrev aFf:Stmt:=top 56
theorem aIz:aAv ["_law_word_here","_law_parts"] ["_law_word_here"] (aAh aFf):=⟨rfl,rfl,rfl,by decide +kernel,rfl,by decide +kernel,by decide +kernel⟩
noncomputable abbrev aDo:Stmt:=top 57
theorem aHj:aAv ["_law_words","_law_known","_law_some"] ["_law_words","_law_known"] (aAh aDo):=⟨rfl,rfl,rfl,by decide +kernel,rfl,by decide +kernel,by decide +kernel⟩
noncomputable abbrev aJ0:Stmt:=top 58
theorem aN9:aAv ["_law_words","_law_known","_law_names_here"] ["_law_words","_law_known"] (aAh aJ0):=⟨rfl,rfl,rfl,by decide +kernel,rfl,by decide +kernel,by decide +kernel⟩
noncomputable abbrev aQs:Stmt:=top 59
theorem aC5:aAv ["_law_text_here","_law_found","_law_known","_law_inside","_law_texts","_law_one","_law_words","_law_row_here","_law_begun_here"] ["_law_text_here"] (aAh aQs):=⟨rfl,rfl,rfl,by decide +kernel,rfl,by decide +kernel,by decide +kernel⟩
noncomputable abbrev aQp:Stmt:=top 60
theorem aJn:aAv ["_law_number_here","_law_names_here","_law_some"] ["_law_number_here","_law_names_here"] (aAh aQp):=⟨rfl,rfl,rfl,by decide +kernel,rfl,by decide +kernel,by decide +kernel⟩
noncomputable abbrev aJs:Stmt:=top 61
theorem aHg:aAv ["_law_words","_law_number_here","_law_names_here","_law_at","_law_word_here"] ["_law_words","_law_number_here","_law_names_here"] (aAh aJs):=⟨rfl,rfl,rfl,by decide +kernel,rfl,by decide +kernel,by decide +kernel⟩
noncomputable abbrev aE4:Stmt:=top 62
theorem aCy:aAv ["_law_text_here","_law_number_here","_law_rows","_law_one","_law_other","_law_kept"] ["_law_text_here","_law_number_here"] (aAh aE4):=⟨rfl,rfl,rfl,by decide +kernel,rfl,by decide +kernel,by decide +kernel⟩
noncomputable abbrev aMr:Stmt:=top 63
theorem aDf:aAv ["_law_text_here","_law_number_here","_law_names_here","_law_way","_law_row_here","_law_k","_law_words"] ["_law_text_here","_law_number_here","_law_names_here"] (aAh aMr):=⟨rfl,rfl,rfl,by decide +kernel,rfl,by decide +kernel,by decide +kernel⟩
noncomputable abbrev aHo:Stmt:=top 64
theorem aEr:aAv ["_law_text_here","_law_told","e"] ["_law_text_here"] (aAh aHo):=⟨rfl,rfl,rfl,by decide +kernel,rfl,by decide +kernel,by decide +kernel⟩
noncomputable abbrev aMo:Stmt:=top 65
theorem aN8:aAv ["_law_text_here","_law_due"] ["_law_text_here"] (aAh aMo):=⟨rfl,rfl,rfl,by decide +kernel,rfl,by decide +kernel,by decide +kernel⟩
noncomputable abbrev aJy:Stmt:=top 66
theorem aHm:aAv ["_law_script","_law_names_here","_law_text_here","_law_k","_law_many","_law_rows","_law_thing"] ["_law_script"] (aAh aJy):=⟨rfl,rfl,rfl,by decide +kernel,rfl,by decide +kernel,by decide +kernel⟩
noncomputable def aQh (K:PySem.W.Frag):Sp:=fun vs H Q _=>∃ (x:V) (t:Value) (b c:Bool),vs=[x]/\aIm K H x t/\PySem.W.kitOne K t (.type "int")=some b/\PySem.W.kitOne K t (.type "bool")=some c/\Q (.bl (b&&!c)) H
noncomputable def aYt:Sp:=fun vs H Q _=>∃ (a b:Int),vs=[.int a,.int b]/\Q (.int (Int.gcd a b:Int)) H
noncomputable def aN3 (K:PySem.W.Frag):Sp:=fun vs H Q _=>∃ (x:V) (r:Bool),vs=[x]/\Frq K H x r/\Q (.bl r) H
noncomputable def aNv:Sp:=fun vs H Q _=>∃ z:Str,vs=[.str z,.int 12]/\z.length<=200000/\∀ H',aAm H H'->Q (.bl (aCi z)) H'
noncomputable def aK3:Sp:=fun vs H Q _=>∃ z:Str,vs=[.str z]/\z.length<=200000/\(∀ t v H',tmO z=some t->aAm H H'->FrQ H' v t->Q v H')/\(tmO z=none->∀ H',aAm H H'->Q .non H')
noncomputable def aN1:Sp:=fun vs H Q _=>∃ z:Str,vs=[.str z]/\z.length<=200000/\∀ H',aAm H H'->Q (.bl (aA3 z)) H'
noncomputable def aX1 (K:PySem.W.Frag) (H:Hp) (x:V) (b:Bool):Prop:=(∃ z:Str,x=.str z/\z.length<=200000/\b=aBx z)∨(NS K H x/\b=false)
noncomputable def aUs (K:PySem.W.Frag):Sp:=fun vs H Q _=>∃ (x:V) (b:Bool),vs=[x]/\aX1 K H x b/\∀ H',aAm H H'->Q (.bl b) H'
noncomputable def aD9 (xe:Addr):Sp:=fun vs H Q E=>∃ (b:Bool) (l:Addr) (ws:List Str),vs=[.bl b,.ref l]/\H l=some (.lst (ws.map V.str))/\(ws.map (·.length)).sum+ws.length<=200000/\(b=true->Q .non H)/\(b=false->∀ H',aAm H H'->E (.ref xe) none H')
noncomputable def aDx (K:PySem.W.Frag) (xe:Addr):Sp:=fun vs H Q E=>∃ (lw:Addr) (ws:List Str) (l:Addr) (ps:List Str),vs=[.ref lw,.ref l]/\H lw=some (.lst (ws.map V.str))/\wt ws<=200000/\H l=some (.lst (ps.map V.str))/\wt ps<=200000/\(ps.all aBx=true->∀ p H',aAm H H'->H' p=some (.tup (ps.map V.str))->Q (.ref p) H')/\(ps.all aBx=false->∀ H',aAm H H'->E (.ref xe) none H')
noncomputable def aF1 (xe:Addr):Sp:=fun vs H Q E=>∃ (lw:Addr) (ws:List Str) (z:Str),vs=[.ref lw,.str z]/\H lw=some (.lst (ws.map V.str))/\wt ws<=200000/\z.length<=200000/\(∀ t v H',tmO z=some t->aAm H H'->FrQ H' v t->Q v H')/\(tmO z=none->∀ H',aAm H H'->E (.ref xe) none H')
noncomputable def aK1 (K:PySem.W.Frag) (xe:Addr):Sp:=fun vs H Q E=>∃ (l:Addr) (r:List Str),vs=[.ref l]/\H l=some (.lst ((("run":Str)::r).map V.str))/\wt (("run":Str)::r)<=200000/\(∀ t v H',aTb r=some t->aAm H H'->aBp H' v t->Q v H')/\(aTb r=none->∀ H',aAm H H'->E (.ref xe) none H')
noncomputable def aGg (K:PySem.W.Frag) (xe:Addr):Sp:=fun vs H Q E=>∃ (l:Addr) (k:aFy) (r:List Str),vs=[.ref l]/\H l=some (.lst ((k.nm::r).map V.str))/\wt (k.nm::r)<=200000/\(∀ t v H',aM1 k r=some t->aAm H H'->aBp H' v t->Q v H')/\(aM1 k r=none->∀ H',aAm H H'->E (.ref xe) none H')
noncomputable def aK4 (K:PySem.W.Frag) (xe:Addr):Sp:=fun vs H Q E=>∃ (l d:Addr) (f:Cnt) (n:Nat) (r:List Str),vs=[.ref l,.ref d]/\H l=some (.lst ((("put":Str)::r).map V.str))/\wt (("put":Str)::r)<=200000/\KdQ H d f n/\(∀ t v H',aU3 f r=some t->aAm H H'->aBp H' v t->Q v H')/\(aU3 f r=none->∀ H',aAm H H'->E (.ref xe) none H')
noncomputable def aHc (K:PySem.W.Frag) (xe:Addr):Sp:=fun vs H Q E=>∃ (l d:Addr) (f:Cnt) (n:Nat) (ws:List Str),vs=[.ref l,.ref d]/\ws≠[]/\H l=some (.lst (ws.map V.str))/\wt ws<=200000/\KdQ H d f n/\(∀ t v H',aBk f ws=some t->aAm H H'->aBp H' v t->Q v H')/\(aBk f ws=none->∀ H',aAm H H'->E (.ref xe) none H')
noncomputable def aK6 (K:PySem.W.Frag) (xe:Addr):Sp:=fun vs H Q E=>∃ (l d:Addr) (f:Cnt) (n:Nat) (r:List Str) (inner:List (List Str)),vs=[.ref l,.ref d]/\LsQ H l ((("piece":Str)::r)::inner)/\inner.length<=60/\(∀ ws∈(("piece":Str)::r)::inner,wt ws<=200000)/\(∀ ws∈inner,ws≠[])/\KdQ H d f n/\(∀ p v H',aI7 f ((("piece":Str)::r)::inner)=some p->aAm H H'->aFz H' v p->Q v H')/\(aI7 f ((("piece":Str)::r)::inner)=none->∀ H',aAm H H'->E (.ref xe) none H')
noncomputable def aN5 (K:PySem.W.Frag) (xe:Addr):Sp:=fun vs H Q E=>∃ (l:Addr) (ls:List (List Str)) (a:Nat),vs=[.ref l,.int (a:Int)]/\LsQ H l ls/\ls.length<=60/\a<=ls.length/\(∀ b H',a<=b->ls[b]?=some [("end":Str)]->(∀ j,a<=j->j < b->∀ ws,ls[j]?=some ws->ws≠[("end":Str)])->aAm H H'->Q (.int (b:Int)) H')/\((∀ j,a<=j->∀ ws,ls[j]?=some ws->ws≠[("end":Str)])->∀ H',aAm H H'->E (.ref xe) none H')
noncomputable def aHe (K:PySem.W.Frag) (xe:Addr):Sp:=fun vs H Q E=>∃ x:V,vs=[x]/\((∃ z:Str,x=.str z/\z.length<=190000/\((aEj z).length<=60->∀ l H',aAm H H'->LsQ H' l (aEj z)->Q (.ref l) H')/\(60 < (aEj z).length->∀ H',aAm H H'->E (.ref xe) none H'))∨(NS K H x/\∀ H',aAm H H'->E (.ref xe) none H'))
noncomputable def aDe (K:PySem.W.Frag) (xe:Addr):Sp:=fun vs H Q E=>∃ x:V,vs=[x]/\((∃ z:Str,x=.str z/\z.length<=190000/\(∀ gs l H',aLf z=some gs->H l=none->aAm H H'->GsQ H' l gs->Q (.ref l) H')/\(aLf z=none->∀ H',aAm H H'->E (.ref xe) none H'))∨(NS K H x/\∀ H',aAm H H'->E (.ref xe) none H'))
noncomputable def aUu (K:PySem.W.Frag):Sp:=fun vs H Q _=>∃ (a:Addr) (ns:List Int) (k:Int),vs=[.ref a,.int k]/\SqL K H a (ns.map V.int)/\0<=k/\∀ r,Q (.int r) H
noncomputable def aN2 (K:PySem.W.Frag):Sp:=fun vs H Q _=>∃ (a:Addr) (ns:List Int) (k:Int),vs=[.ref a,.int k]/\SqL K H a (ns.map V.int)/\0<=k/\k<=1000/\∀ r,0<=r->Q (.int r) H
noncomputable def aJk:Sp:=fun vs H Q _=>∃ (t b:Int),vs=[.int t,.int b]/\0 < b/\Sm 8000 t/\Sm 8000 b /\
 ∀ p,H p=none->Q (.ref p) (upd H p (.tup [.int (aGk t b),.int (aF8 t b)]))
noncomputable def aHd (K:PySem.W.Frag):Sp:=fun vs H Q _=>∃ (a:Addr) (ns:List Int),vs=[.ref a]/\SqL K H a (ns.map V.int)/\∀ l H' (U:List Str),H l=none->aAm H H'->H' l=some (.lst (U.map V.str))->U.length=8->(∀ s∈U,aA3 s=true)->U.Nodup->Q (.ref l) H'
theorem aH5 {x:Str} {r:List Str} (hx:∀ p∈x::r,aA3 p=true) (hl:r.length<=3):aDb (Str.join ⟨#[46]⟩ (x::r)):=by
 constructor
 ·show pst _ 1 0=true
  rw [aG2 r x 1 fun c hc=>(aC2 (hx c hc)).2.2,decide_eq_true (show 1+r.length<=4 by omega),Bool.true_and,List.all_eq_true]
  exact hx
 ·have e2:=PyProof.Rows.len_join_cons ⟨#[46]⟩ x r
  have e3:(⟨#[46]⟩:Str).length=1:=rfl
  rw [e3] at e2
  have hs:=aQf (cs:=x::r) fun c hc=>(aC2 (hx c hc)).2.1
  rw [List.length_cons] at hs
  omega
noncomputable def aN0:Sp:=fun vs H Q _=>∃ (c:Int) (ln:Addr) (U:List Str),vs=[.int c,.ref ln]/\0<=c/\H ln=some (.lst (U.map V.str))/\U.length=8/\(∀ s∈U,aA3 s=true)/\∀ (s:Str) H',aAm H H'->aDb s->Q (.str s) H'
theorem at3 {x0 x1 x2:Int} (P:Int->Prop) (h0:P x0) (h1:P x1) (h2:P x2) (i:Int) (l:0<=i) (u:i < 3):∃ t:Int,atI [V.int x0,V.int x1,V.int x2] i=some (.int t)/\P t:=by
 have:i=0∨i=1∨i=2:=by omega
 rcases this with rfl | rfl | rfl
 ·exact ⟨_,rfl,h0⟩
 ·exact ⟨_,rfl,h1⟩
 ·exact ⟨_,rfl,h2⟩
noncomputable def aNw:Sp:=fun vs H Q _=>∃ c:Int,vs=[.int c]/\0<=c/\∀ v q H',aAm H H'->FrQ H' v q->aNo q->Q v H'
theorem aVu {t b:Int} (h1:0 < t) (h2:t<=999999999999) (h3:0 < b) (h4:b<=999999999999):aNo (Rat.divInt t b):=by
 have hb0:b≠0:=by omega
 have e:=aKd (t:=t) hb0
 have a1:=aXa (t:=t) hb0
 have a2:=aXb (t:=t) hb0
 refine ⟨aW8 h1 h3,?_,?_⟩
 ·rw [e.1]
  omega
 ·have:=e.2
  omega
noncomputable def aHa:Sp:=fun vs H Q _=>∃ (c:Int) (ln:Addr) (U:List Str) (m:Nat),vs=[.int c,.ref ln,.int (m:Int)]/\0<=c/\H ln=some (.lst (U.map V.str))/\U.length=8/\(∀ s∈U,aA3 s=true)/\m<=100/\∀ p H' (ps:List Str),aAm H H'->H' p=some (.tup (ps.map V.str))->ps.length=m->(∀ s∈ps,aDb s)->Q (.ref p) H'
theorem at5 (i:Int) (l:0<=i) (u:i < 5):∃ t:Nat,atI [V.int 2,V.int 2,V.int 3,V.int 4,V.int 5] i=some (.int (t:Int))/\2<=t/\t<=5:=by
 have:i=0∨i=1∨i=2∨i=3∨i=4:=by omega
 rcases this with rfl | rfl | rfl | rfl | rfl
 ·exact ⟨2,rfl,by decide,by decide⟩
 ·exact ⟨2,rfl,by decide,by decide⟩
 ·exact ⟨3,rfl,by decide,by decide⟩
 ·exact ⟨4,rfl,by decide,by decide⟩
 ·exact ⟨5,rfl,by decide,by decide⟩
noncomputable def aK5:Sp:=fun vs H Q _=>∃ (c:Int) (ln:Addr) (U:List Str),vs=[.int c,.ref ln]/\0<=c/\H ln=some (.lst (U.map V.str))/\U.length=8/\(∀ s∈U,aA3 s=true)/\∀ (v:V) H' (r:aO5),aAm H H'->aGv H' v r->okP r->Q v H'
noncomputable def aQi (K:PySem.W.Frag):Sp:=fun vs H Q _=>∃ (c:Int) (ln:Addr) (U:List Str) (lk:Addr) (E:List aBf),vs=[.int c,.ref ln,.ref lk]/\0<=c/\H ln=some (.lst (U.map V.str))/\U.length=8/\(∀ s∈U,aA3 s=true)/\KnQ H lk E/\E.length<=8/\(∀ p∈E,1<=p.2.1.length/\p.2.1.length<=8)/\∀ (v:V) H' (r:aGt),aAm H H'->aBp H' v r->WfT E r->Q v H'
noncomputable def aJl (K:PySem.W.Frag):Sp:=fun vs H Q _=>∃ (d lf lk:Addr) (U:List Str) (gs:List aCp) (x:aBf) (H0:Hp) (n:Nat),vs=[.ref d]/\aAm H0 H/\StI H0 H d lf lk U gs (some x) n/\x.2.2≠[]/\n<=55/\∀ H',aAm H0 H'->StI H0 H' d lf lk U (gs++[.piece x]) none (n+1)->Q .non H'
noncomputable def aJj:Sp:=fun vs H Q _=>∃ (v:V) (q:Rat),vs=[v]/\FrQ H v q/\aNo q/\Q (.str (tmS q)) H
theorem aF0:∀ {ys:List Str} {B:Nat},(∀ s∈ys,s.length<=B)->(ys.map (·.length)).sum<=ys.length * B
 | [],_,_=>by simp
 | y::ys,B,h=>by
  have h1:=h y (by simp)
  have h2:=aF0 (ys:=ys) fun s hs=>h s (List.mem_cons_of_mem _ hs)
  rw [List.map_cons,List.sum_cons,List.length_cons,Nat.succ_mul]
  omega
theorem aOc (a b t:Str):Str.join (Str.ofString " ") ["run",a,b]++Str.ofString " "++t=Str.join sp1 ["run",a,b,t]:=by
 refine aVw ?_
 rw [aKp,aKp,aKk,aKk]
 simp [jnL]
theorem aYx {K:PySem.W.Frag} {H:Hp} {Q:VK} {p:Addr} {a b c d:V} (h:H p=some (.tup [a,b,c,d])) (k:∀ l,H l=none->Q (.ref l) (upd H l (.tup [a,b]))):aX6 K (.ref p) none (some 2) H Q:=by
 have e2:HT.sIx 4 4 (some 2)=2:=by decide
 refine aYw h ?_ ?_
 ·show ¬ (_/\HT.sIx 4 4 (some 2)=4)
  rw [e2]
  exact fun h=>absurd h.2 (by decide)
 ·rw [show aDs [a,b,c,d] none (some 2)=[a,b] from aSi (xs:=[a,b,c,d]) 2]
  exact k
noncomputable def lnV (ws:List Str):V:=.str (Str.join sp1 ws)
noncomputable def aNy (K:PySem.W.Frag):Sp:=fun vs H Q _=>∃ (v:V) (r:aGt) (E:List aBf),vs=[v]/\aBp H v r/\WfT E r/\WfE E/\∀ l H',H l=none->aAm H H'->H' l=some (.lst [lnV (aKw r)])->Q (.ref l) H'
noncomputable def aMl (K:PySem.W.Frag):Sp:=fun vs H Q _=>∃ (v:V) (g:aCp) (E:List aBf),vs=[v]/\aEw H v g/\WfG E [g]/\WfE E/\∀ l H',H l=none->aAm H H'->H' l=some (.lst ((aBu g).map lnV))->Q (.ref l) H'
noncomputable def aUt (K:PySem.W.Frag):Sp:=fun vs H Q _=>∃ (c:Int) (d lf lk ln:Addr) (U:List Str) (gs:List aCp) (ins:Option aBf) (H0:Hp) (n:Nat),vs=[.int c,.ref d,.ref ln]/\0<=c/\aAm H0 H/\H0 ln=some (.lst (U.map V.str))/\(U.length=8/\(∀ s∈U,aA3 s=true)/\U.Nodup)/\StI H0 H d lf lk U gs ins n/\n<=50/\∀ H' gs' ins',aAm H0 H'->StI H0 H' d lf lk U gs' ins' (n+1)->Q .non H'
noncomputable def aQj (K:PySem.W.Frag):Sp:=fun vs H Q _=>∃ (a:Addr) (ns:List Int) (m:Nat),vs=[.ref a,.int 2,.int (m:Int)]/\SqL K H a (ns.map V.int)/\ns.length<=63/\m<=42/\∀ l H' (gs:List aCp),aAm H H'->H l=none->GsQ H' l gs->aSy gs->gs≠[]->lnN gs<=m+2->Q (.ref l) H'
theorem aRr {gs:List aCp} (hb:aSy gs) (hn:lnN gs<=60):(((gs.flatMap aBu).map (Str.join sp1)).map (·.length)).sum+((gs.flatMap aBu).map (Str.join sp1)).length * sp3.length<=16777216/\(aP7 (gs.flatMap aBu)).length<=1000000:=by
 have hok:=aFp (E:=[]) trivial hb.wf
 have hll:=aEi gs
 have e3:sp3.length=3:=by decide +kernel
 have h1:=aF0 (ys:=(gs.flatMap aBu).map (Str.join sp1)) (B:=10000) fun s hs=>by
  obtain ⟨ws,hw,rfl⟩:=List.mem_map.mp hs
  exact (hok ws hw).2.2
 have h2:=StrLaws.join_length_le sp3 ((gs.flatMap aBu).map (Str.join sp1))
 rw [List.length_map] at h1 h2
 rw [List.length_map,e3]
 rw [e3] at h2
 refine ⟨by omega,?_⟩
 show (Str.join sp3 _).length<=_
 omega
noncomputable def aNx (K:PySem.W.Frag):Sp:=fun vs H Q _=>∃ (l:Addr) (gs:List aCp),vs=[.ref l]/\GsQ H l gs/\aSy gs/\lnN gs<=60/\∀ H',aAm H H'->Q (.str (aP7 (gs.flatMap aBu))) H'
noncomputable def aEq:Sp:=fun vs H Q _=>∃ z:Str,vs=[.str z]/\z.length<=200000/\∀ H',aAm H H'->Q (.bl (aA3 z)) H'
noncomputable def aIx:Sp:=fun vs H Q _=>∃ z:Str,vs=[.str z]/\z.length<=200000/\∀ H',aAm H H'->Q (.bl (aBx z)) H'
noncomputable def aHf:Sp:=fun vs H Q _=>∃ z:Str,vs=[.str z]/\z.length<=200000/\∀ H',aAm H H'->Q (aQ7 (aPr z)) H'
noncomputable def aIv:Sp:=fun vs H Q _=>∃ z:Str,vs=[.str z]/\z.length<=200000/\(∀ t v H',tmO z=some t->aAm H H'->FrQ H' v t->Q v H')/\(tmO z=none->∀ H',aAm H H'->Q .non H')
noncomputable def aHb (K:PySem.W.Frag):Sp:=fun vs H Q _=>∃ (l d:Addr) (f:Cnt) (n:Nat) (ws:List Str),vs=[.ref l,.ref d]/\ws≠[]/\H l=some (.lst (ws.map V.str))/\wt ws<=200000/\KdQ H d f n/\bCi f/\(∀ t v H',aBk f ws=some t->aAm H H'->aBp H' v t->Q v H')/\(aBk f ws=none->∀ H',aAm H H'->Q .non H')
noncomputable def aK8 (K:PySem.W.Frag):Sp:=fun vs H Q _=>∃ (l d:Addr) (f:Cnt) (n:Nat) (ws:List Str),vs=[.ref l,.ref d]/\ws≠[]/\H l=some (.lst (ws.map V.str))/\wt ws<=200000/\KdQ H d f n/\(∀ p li lq lp H',aCh f ws=some p->aAm H H'->H li=none->H lp=none->li≠lp->H' li=some (.lst [.str p.1,.ref lq,.ref lp])->H' lq=some (.tup (p.2.map V.str))->H' lp=some (.lst [])->Q (.ref li) H')/\(aCh f ws=none->∀ H',aAm H H'->Q .non H')
noncomputable def aNz (K:PySem.W.Frag):Sp:=fun vs H Q _=>∃ z:Str,vs=[.str z]/\z.length<=190000/\(∀ gs l H',aLf z=some gs->aAm H H'->GsQ H' l gs->Q (.ref l) H')/\(aLf z=none->∀ H',aAm H H'->Q .non H')
noncomputable def aJi:Sp:=fun vs H Q _=>∃ (n:Int) (ln:Addr) (U:List Str),vs=[.int n,.ref ln]/\0<=n/\H ln=some (.lst (U.map V.str))/\U.length=8/\(∀ s∈U,aA3 s=true)/\∀ w H',w.length<=30->aAm H H'->Q (.str w) H'
noncomputable def aIw (K:PySem.W.Frag):Sp:=fun vs H Q _=>∃ (l:Addr) (ws:List Str) (n:Int) (ln:Addr) (U:List Str),vs=[.ref l,.int n,.ref ln]/\H l=some (.lst (ws.map V.str))/\wt ws<=180000/\0<=n/\H ln=some (.lst (U.map V.str))/\U.length=8/\(∀ s∈U,aA3 s=true)/\∀ l' ws' H',wt ws'<=wt ws+31->aAm H H'->H' l'=some (.lst (ws'.map V.str))->Q (.ref l') H'
noncomputable def aN4:Sp:=fun vs H Q _=>∃ (z:Str) (n:Int),vs=[.str z,.int n]/\z.length<=180000/\0<=n/\∀ z' H',z'.length=z.length->aAm H H'->Q (.str z') H'
noncomputable def aK7 (K:PySem.W.Frag):Sp:=fun vs H Q _=>∃ (z:Str) (n:Int) (ln:Addr) (U:List Str),vs=[.str z,.int n,.ref ln]/\z.length<=170000/\0<=n/\H ln=some (.lst (U.map V.str))/\U.length=8/\(∀ s∈U,aA3 s=true)/\∀ z' H',z'.length<=190000->aAm H H'->Q (.str z') H'
noncomputable def RfQ (K:PySem.W.Frag) (H:Hp) (x:V):Prop:=(∃ z:Str,x=.str z/\z.length<=190000/\aLf z=none)∨NS K H x
noncomputable def aE0 (K:PySem.W.Frag):Sp:=fun vs H Q _=>∃ x:V,vs=[x]/\RfQ K H x/\∀ H',aAm H H'->Q (.bl true) H'
theorem rr_no {K:PySem.W.Frag} {xe:Addr} {H:Hp} {Q:VK} {E:XK} {x:V} (h:RfQ K H x) (k:∀ H',aAm H H'->E (.ref xe) none H'):aDe K xe [x] H Q E:=by
 refine ⟨x,rfl,?_⟩
 rcases h with ⟨z,rfl,hz,hn⟩ | h
 ·exact .inl ⟨z,rfl,hz,(fun gs l H' e=>by rw [hn] at e; cases e),fun _=>k⟩
 ·exact .inr ⟨h,k⟩
noncomputable def aK2 (K:PySem.W.Frag):Sp:=fun vs H Q _=>∃ z:Str,vs=[.str z]/\z.length<=190000/\∀ H',aAm H H'->Q (.bl true) H'
noncomputable def aS7 (K:PySem.W.Frag):Sp:=fun vs H Q _=>∃ (a:Addr) (ns:List Int),vs=[.ref a]/\SqL K H a (ns.map V.int)/\ns.length<=63/\∀ H',Q (.bl true) H'
theorem aS3 {gs:List aCp} (hb:aSy gs):(aP7 (gs.flatMap aBu)).length<=lnN gs * 10003:=by
 have hok:=aFp (E:=[]) trivial hb.wf
 have hll:=aEi gs
 have e3:sp3.length=3:=by decide +kernel
 have h1:=aF0 (ys:=(gs.flatMap aBu).map (Str.join sp1)) (B:=10000) fun s hs=>by
  obtain ⟨ws,hw,rfl⟩:=List.mem_map.mp hs
  exact (hok ws hw).2.2
 have h2:=StrLaws.join_length_le sp3 ((gs.flatMap aBu).map (Str.join sp1))
 rw [List.length_map] at h1 h2
 rw [e3] at h2
 show (Str.join sp3 _).length<=_
 omega
section
variable {P:Program} {w:World} {K:PySem.W.Frag} {mg:Str -> Option Value} {base:Heap} {k:Nat} {xt x0 x1 x4 x5 x10:Addr}
theorem aM6 (T:Bl mg) (d:Df K mg "is_whole" aF3 ["thing"]  ) (W:XmS mg xt x0 x1 x4 x5 x10) (R_NoText:XrS K xt x0 x1 x4 x5 x10 x5 5):Okf P w K mg base (k+1) "is_whole" ["thing"] (aQh K):=by
 refine Okf.of d aMn (fun vs H Q E h=>?_) (fun f cdv A outer s H vs Q E hr h=>?_)
 ·obtain ⟨x,t,b,c,rfl,_⟩:=h
  rfl
 ·obtain ⟨x,t,b,c,rfl,ty,e1,e2,q⟩:=h
  refine ⟨_,(@aAf _ _ _ (@aAq _ _ _ _ (@aEg _ _ _ _ _ _ _ (@aAk _ _ _ _ _ _ _ _ _ (aEm (T:="int")) rfl T.z_isinstance aBs (@aAa _ _ _ _ _ (pv 0) (@aAa _ _ _ _ _ (@aF5 _ _ (v:=.ty "int") _ _ rfl T.z_int aJf rfl (by decide) (by decide)) (@aAc _) (by rfl)) (by rfl)) (by decide) (by decide) (by rfl) (by rfl)) (@aFl _ _ _ _ _ (@aU8 _ _ _ _ (@aAk _ _ _ _ _ _ _ _ _ (aEm (T:="bool")) rfl T.z_isinstance aBs (@aAa _ _ _ _ _ (pv 0) (@aAa _ _ _ _ _ (@aF5 _ _ (v:=.ty "bool") _ _ rfl T.z_bool aXw rfl (by decide) (by decide)) (@aAc _) (by rfl)) (by rfl)) (by decide) (by decide) (by rfl) (by rfl))))))),?_⟩
  walk_at "go"
  refine aFj ty e1 ?_
  cases b
  ·walk_at "go"
   exact q
  ·walk_at "go"
   refine aFj ty e2 ?_
   walk_at "go"
   exact q
theorem aF7 (T:Bl mg) (d:Df K mg "common_divisor" aCz ["one","other"]  ) (W:XmS mg xt x0 x1 x4 x5 x10) (R_NoText:XrS K xt x0 x1 x4 x5 x10 x5 5):Okf P w K mg base (k+1) "common_divisor" ["one","other"] aYt:=by
 refine Okf.of d aB8 (fun vs H Q E h=>?_) (fun f cdv A outer s H vs Q E hr h=>?_)
 ·obtain ⟨a,b,rfl,_⟩:=h
  rfl
 ·obtain ⟨a,b,rfl,q⟩:=h
  refine ⟨_,(@aAe _ _ _ _ _ (@aJ5 _ _ _ _ _ _ PassesOwn.never (@aAl _ _ _ _ _ _ _ _ (aD5 hr.units) (pv 1) (@aAb _ _ _ _) (aAo _)) (@aAe _ _ _ _ _ (@aAp _ _ (i:=2) _ _ _ _ aB8.nd rfl (by first | exact Or.inl rfl | exact Or.inr rfl) (@aAj _ _ _ _ _ _ _ _ aWv (pv 0) (pv 1)) (by rfl) (by first | exact .inl rfl | exact .inr rfl | assumption)) (@aAe _ _ _ _ _ (@aAp _ _ (i:=0) _ _ _ _ aB8.nd rfl (by first | exact Or.inl rfl | exact Or.inr rfl) (pv 1) (by rfl) (by first | exact .inl rfl | exact .inr rfl | assumption)) (@aAf _ _ _ (@aAp _ _ (i:=1) _ _ _ _ aB8.nd rfl (by first | exact Or.inl rfl | exact Or.inr rfl) (pv 2) (by rfl) (by first | exact .inl rfl | exact .inr rfl | assumption)))))) (@aAf _ _ _ (@aAq _ _ _ _ (@aAk _ _ _ _ _ _ _ _ _ bCd rfl T.z_abs aVm (@aAa _ _ _ _ _ (pv 0) (@aAc _) (by rfl)) (by decide) (by decide) (by rfl) (by rfl))))),?_⟩
  walk_at "go"
  refine aNs (fun σ H'=>∃ (one other:Int) (o:Option V),σ=[some (.int one),some (.int other),o]/\H'=H/\Int.gcd one other=Int.gcd a b)
   (fun σ _=>match σ with | [_,some (.int z),_]=>z.natAbs | _=>0) ⟨_,_,_,rfl,rfl,rfl⟩ ?_ ?_
  ·rintro σ H' ⟨one,other,o,rfl,rfl,hg⟩
   walk_at "go"
   refine i_d (fun c=>?_) (fun c=>?_)
   ·subst c
    walk_at "go"
    rw [Int.gcd_zero_right] at hg
    have e:(if one < 0 then -one else one)=(Int.gcd a b:Int):=by rw [← hg]; split <;> omega
    rw [e]
    exact q
   ·walk_at "go"
    refine ⟨⟨_,_,_,rfl,rfl,by rw [aR2 c]; exact hg⟩,?_⟩
    show (one.fmod other).natAbs < other.natAbs
    exact aXl c
  ·intro σ H Q Q' hQ h
   obtain ⟨v,e1,h⟩:=h
   rcases h with ⟨e2,b',e3,q'⟩ | ⟨d,e,e2,e3,e4,e5,b',e6,q'⟩
   ·exact ⟨v,e1,.inl ⟨e2,b',e3,hQ _ _ q'⟩⟩
   ·exact ⟨v,e1,.inr ⟨d,e,e2,e3,e4,e5,b',e6,hQ _ _ q'⟩⟩
theorem aIq (T:Bl mg) (d:Df K mg "is_fraction" aD1 ["thing"]  ) (W:XmS mg xt x0 x1 x4 x5 x10) (R_NoText:XrS K xt x0 x1 x4 x5 x10 x5 5) (o_common_divisor:Okf P w K mg base k "common_divisor" ["one","other"] aYt) (o_is_whole:Okf P w K mg base k "is_whole" ["thing"] (aQh K)):Okf P w K mg base (k+1) "is_fraction" ["thing"] (aN3 K):=by
 refine Okf.of d aIo (fun vs H Q E h=>?_) (fun f cdv A outer s H vs Q E hr h=>?_)
 ·obtain ⟨x,r,rfl,_⟩:=h
  rfl
 ·obtain ⟨x,r,rfl,h,q⟩:=h
  refine ⟨_,(@aAe _ _ _ _ _ (@aA6 _ _ _ _ _ _ _ _ (@PW.pt _ _ _ (@aHs _ _ _ _ _ _ _ (@aC7 _ _ _ _ (@aCq _ _ _ (@aAk _ _ _ _ _ _ _ _ _ (aEm (T:="tuple")) rfl T.z_isinstance aBs (@aAa _ _ _ _ _ (pv 0) (@aAa _ _ _ _ _ (@aF5 _ _ (v:=.ty "tuple") _ _ rfl T.z_tuple aCo rfl (by decide) (by decide)) (@aAc _) (by rfl)) (by rfl)) (by decide) (by decide) (by rfl) (by rfl)) (by intro _; rfl))) (@aGj _ _ _ _ (@aAl _ _ _ _ _ _ _ _ (aD5 hr.units) (@aAk _ _ _ _ _ _ _ _ _ aBo rfl T.z_len aAz (@aAa _ _ _ _ _ (pv 0) (@aAc _) (by rfl)) (by decide) (by decide) (by rfl) (by rfl)) (@aAb _ _ _ _) (aAo _))))) (@aAf _ _ _ (@aAq _ _ _ _ (@aJ7 _ _ _ _))) (@aAu _)) (@aAe _ _ _ _ _ (@aA6 _ _ _ _ _ _ _ _ (@PW.pt _ _ _ (@aHs _ _ _ _ _ _ _ (@aC7 _ _ _ _ (@aCq _ _ _ (@aAn _ _ _ _ _ _ _ _ _ _ o_is_whole hr rfl (@aAa _ _ _ _ _ (@aAr _ _ _ _ _ _ _ aAt (pv 0) (@aAb _ _ _ _) (fun _ _=>rfl)) (@aAc _) (by rfl)) (by decide) (by rfl) (by rfl)) (by intro _; rfl))) (@aGj _ _ _ _ (@aC7 _ _ _ _ (@aCq _ _ _ (@aAn _ _ _ _ _ _ _ _ _ _ o_is_whole hr rfl (@aAa _ _ _ _ _ (@aAr _ _ _ _ _ _ _ aAt (pv 0) (@aAb _ _ _ _) (fun _ _=>rfl)) (@aAc _) (by rfl)) (by decide) (by rfl) (by rfl)) (by intro _; rfl)))))) (@aAf _ _ _ (@aAq _ _ _ _ (@aJ7 _ _ _ _))) (@aAu _)) (@aAf _ _ _ (@aAq _ _ _ _ (@aEg _ _ _ _ _ _ _ (@aB3 _ _ _ _ _ _ _ _ aTr (@aAr _ _ _ _ _ _ _ aAt (pv 0) (@aAb _ _ _ _) (fun _ _=>rfl)) (@aAb _ _ _ _) (aAo _)) (@aFl _ _ _ _ _ (@aB3 _ _ _ _ _ _ _ _ (aA0 hr.units) (@aAn _ _ _ _ _ _ _ _ _ _ o_common_divisor hr rfl (@aAa _ _ _ _ _ (@aAr _ _ _ _ _ _ _ aAt (pv 0) (@aAb _ _ _ _) (fun _ _=>rfl)) (@aAa _ _ _ _ _ (@aAr _ _ _ _ _ _ _ aAt (pv 0) (@aAb _ _ _ _) (fun _ _=>rfl)) (@aAc _) (by rfl)) (by rfl)) (by decide) (by rfl) (by rfl)) (@aAb _ _ _ _) (aAo _)))))))),?_⟩
  rcases h with ⟨⟨t,ty,e1⟩,rfl⟩ | ⟨p,xs,rfl,h1,h2,rfl⟩ | ⟨p,v,w',rfl,h1,fv,fw,hsm,rfl⟩
  ·walk_at "go"
   refine aFj ty e1 ?_
   walk_at "go"
   exact q
  ·walk_at "go"
   refine aFj (.tup h1) aEk ?_
   walk_at "go"
   exact q
  ·walk_at "go"
   refine aFj (.tup h1) aEk ?_
   walk_at "go"
   refine i_d (fun _=>?_) (fun c=>absurd rfl c)
   walk_at "go"
   obtain ⟨t1,b1,c1,ty1,k1,k2,e1⟩:=aR8 (K:=K) (H:=H) fv
   refine ⟨v,t1,b1,c1,rfl,ty1,k1,k2,?_⟩
   rw [e1]
   walk_at "go"
   cases v with
   | int a =>
    refine i_bT rfl ?_
    walk_at "go"
    obtain ⟨t2,b2,c2,ty2,k3,k4,e2⟩:=aR8 (K:=K) (H:=H) fw
    refine ⟨w',t2,b2,c2,rfl,ty2,k3,k4,?_⟩
    rw [e2]
    walk_at "go"
    cases w' with
    | int b =>
     refine i_bT rfl ?_
     walk_at "go"
     refine i_d (fun c=>?_) (fun c=>?_)
     ·walk_at "go"
      refine ⟨a,b,rfl,?_⟩
      walk_at "go"
      have e:decide ((Int.gcd a b:Int)=1)=frV (.int a) (.int b):=by
       show _=(decide (1<=b)&&decide (Int.gcd a b=1))
       rw [decide_eq_true c,Bool.true_and]
       by_cases hg:Int.gcd a b=1
       ·rw [decide_eq_true hg,decide_eq_true (by omega)]
       ·rw [decide_eq_false hg,decide_eq_false (by omega)]
      rw [e]
      exact q
     ·walk_at "go"
      have e:frV (.int a) (.int b)=false:=by
       show (decide (1<=b)&&decide (Int.gcd a b=1))=false
       rw [decide_eq_false c,Bool.false_and]
      rw [e] at q
      exact q
    | non=>refine aX7 rfl ?_; walk_at "go"; exact q
    | bl _=>refine aX7 rfl ?_; walk_at "go"; exact q
    | str _=>refine aX7 rfl ?_; walk_at "go"; exact q
    | _=>exact absurd (show false=true from fw) Bool.false_ne_true
   | non=>refine aX7 rfl ?_; walk_at "go"; exact q
   | bl _=>refine aX7 rfl ?_; walk_at "go"; exact q
   | str _=>refine aX7 rfl ?_; walk_at "go"; exact q
   | _=>exact absurd (show false=true from fv) Bool.false_ne_true
theorem aJ9 (T:Bl mg) (d:Df K mg "is_written" aDg ["word","most"]  ) (W:XmS mg xt x0 x1 x4 x5 x10) (R_NoText:XrS K xt x0 x1 x4 x5 x10 x5 5) {tk_FIGURES:Tok} (g_FIGURES:mg "FIGURES"=some (.str "0123456789" tk_FIGURES)):Okf P w K mg base (k+1) "is_written" ["word","most"] aNv:=by
 refine Okf.of d aJr (fun vs H Q E h=>?_) (fun f cdv A outer s H vs Q E hr h=>?_)
 ·obtain ⟨z,rfl,_⟩:=h
  rfl
 ·obtain ⟨z,rfl,hz,q⟩:=h
  refine ⟨_,(@aAf _ _ _ (@aAq _ _ _ _ (@aEg _ _ _ _ _ _ _ (@aG5 _ _ _ _ _ _ _ _ _ _ _ _ aF6 aF6 (@aAb _ _ _ _) (@aAk _ _ _ _ _ _ _ _ _ aBo rfl T.z_len aAz (@aAa _ _ _ _ _ (pv 0) (@aAc _) (by rfl)) (by decide) (by decide) (by rfl) (by rfl)) (pv 1) (by with_unfolding_all rfl)) (@aEg _ _ _ _ _ _ _ (@aAk _ _ _ _ _ _ _ _ _ (aJe rfl) rfl T.z_all aJg (@aAa _ _ _ _ _ (@aC8 _ _ _ _ _ _ _ _ _ _ _ _ _ _ (@aB7 _ _ (sc:=aAh aDg) (N:=["word","most"]) (tn:=["sign"]) (names:=[]) (is:=[]) rfl rfl (by decide +kernel) (by decide +kernel) rfl (by decide +kernel) rfl (by decide +kernel) (by decide +kernel) (by decide +kernel)) rfl (@aG4 _ _ _ _ (pv 0)) (fun _ _ _ _=>(@aAx _ _ (i:=0) _ (show (["sign"]:List Str).Nodup by decide +kernel) rfl (Or.inl rfl) (Or.inr rfl))) (fun _ _ _ _=>(@aB3 _ _ _ _ _ _ _ _ aRa (pv 0) (@aCe _ _ (v:=(.str "0123456789")) _ _ rfl g_FIGURES ⟨_,rfl⟩ (by decide)) (by with_unfolding_all rfl))) (fun _ _ _ _=>(@aB9 _)) (by intro _; rfl)) (@aAc _) (by rfl)) (by decide) (by decide) (by rfl) (by rfl)) (@aFl _ _ _ _ _ (@aB3 _ _ _ _ _ _ _ _ (aD5 hr.units) (@aAr _ _ _ _ _ _ _ aAt (pv 0) (@aAb _ _ _ _) (fun _ _=>rfl)) (@aAi _ _ _ _) (aAo _))))))),?_⟩
  walk_at "go"
  have hzs:z.length<=sizeLine:=by rw [sizeLine_eq]; omega
  refine aI4 hzs ?_
  walk_at "go"
  refine i_d (fun c1=>?_) (fun c1=>?_)
  ·walk_at "go"
   refine i_d (fun c2=>?_) (fun c2=>?_)
   ·walk_at "go"
    refine ⟨z,rfl,?_⟩
    refine aQ0 (by omega) (fun acc i ys G=>Kp acc H G/\ys=(z.cps.toList.take i).map fun c=>V.bl (aOv c)) (fun acc h0=>⟨Kp.new h0,rfl⟩) ?_ ?_
    ·intro acc i ys G c h0 hx hyl hG ⟨kp,e⟩
     walk_at "go"
     have hx':z.cps.toList[i]?=some c:=by simpa using hx
     have hi:i < z.cps.toList.length:=(List.getElem?_eq_some_iff.mp hx').1
     refine aDu (by rw [aBt]; exact hi) hyl hG ⟨Kp.trans kp Kp.upd,?_⟩
     rw [aCr hx',List.map_append,← e,aIa]
     rfl
    ·intro acc ys G h0 hG hl ⟨kp,e⟩
     walk_at "go"
     rw [aBt,List.take_length] at e
     subst e
     have e3:(z.cps.toList.map fun c=>V.bl (aOv c))=(z.cps.toList.map aOv).map V.bl:=by rw [List.map_map]; rfl
     rw [e3] at hG
     refine aI5 hG ?_
     have e4:(z.cps.toList.map aOv).all id=z.cps.toList.all aOv:=by
      rw [List.all_map]
      rfl
     rw [e4]
     obtain ⟨c0,r0,e0⟩:∃ c r,z.cps.toList=c::r:=by
      cases e:z.cps.toList with
      | nil =>
       have:=aBt z
       rw [e] at this
       simp at this
       omega
      | cons c r=>exact ⟨c,r,rfl⟩
     have ew:aCi z=(z.cps.toList.all aOv&&decide (c0≠48)):=by
      unfold aCi bBx
      rw [decide_eq_true (show 1<=z.length by omega),decide_eq_true (show z.length<=12 by omega),e0]
      rfl
     rw [ew] at q
     cases hall:z.cps.toList.all aOv with
     | false =>
      rw [hall] at q
      walk_at "go"
      exact q _ (aAm.kpn h0 (aAm.refl _) kp)
     | true =>
      rw [hall] at q
      walk_at "go"
      refine aTg (by omega) (c:=c0) (by rw [e0]; exact (show atI (c0::r0) ((0:Nat):Int)=some c0 from aA7 rfl)) ?_
      walk_at "go"
      have e5:(!((⟨#[c0]⟩:Str)==Str.ofString "0"))=decide (c0≠48):=by
       rw [show Str.ofString "0"=⟨#[48]⟩ by decide +kernel]
       by_cases h:c0=48
       ·subst h
        rfl
       ·rw [decide_eq_true h,beq_eq_false_iff_ne.mpr fun z=>h (by simpa using z)]
        rfl
      rw [Bool.true_and,← e5] at q
      exact q _ (aAm.kpn h0 (aAm.refl _) kp)
   ·walk_at "go"
    have e:aCi z=false:=by
     unfold aCi
     rw [decide_eq_false (show ¬ z.length<=12 by omega),Bool.and_false,Bool.false_and]
    rw [e] at q
    exact q _ (aAm.refl _)
  ·walk_at "go"
   have e:aCi z=false:=by
    unfold aCi
    rw [decide_eq_false (show ¬ 1<=z.length by omega),Bool.false_and,Bool.false_and]
   rw [e] at q
   exact q _ (aAm.refl _)
set_option maxHeartbeats 0 in
theorem aLn (T:Bl mg) (d:Df K mg "read_time" aDz ["word"]  ) (W:XmS mg xt x0 x1 x4 x5 x10) (R_NoText:XrS K xt x0 x1 x4 x5 x10 x5 5) {tk_MOST_FIGURES:Tok} (g_MOST_FIGURES:mg "MOST_FIGURES"=some (.int 12 tk_MOST_FIGURES)) (o_is_fraction:Okf P w K mg base k "is_fraction" ["thing"] (aN3 K)) (o_is_written:Okf P w K mg base k "is_written" ["word","most"] aNv):Okf P w K mg base (k+1) "read_time" ["word"] aK3:=by
 refine Okf.of d aEa (fun vs H Q E h=>?_) (fun f cdv A outer s H vs Q E hr h=>?_)
 ·obtain ⟨z,rfl,_⟩:=h
  rfl
 ·obtain ⟨z,rfl,hz,q1,q2⟩:=h
  refine ⟨_,(@aAe _ _ _ _ _ (@aAp _ _ (i:=1) _ _ _ _ aEa.nd rfl (by first | exact Or.inl rfl | exact Or.inr rfl) (@aB4 _ _ _ _ _ _ _ _ _ _ _ _ PySem.F.plainAttrs_str PySem.F.slot_str_split PySem.F.type_str_split aCu (pv 0) (@aAa _ _ _ _ _ (@aAi _ _ _ _) (@aAc _) (by rfl)) (by rfl) (by rfl) (by rfl) (by rfl) (by rfl)) (by rfl) (by first | exact .inl rfl | exact .inr rfl | assumption)) (@aAe _ _ _ _ _ (@aA6 _ _ _ _ _ _ _ _ (@PW.pt _ _ _ (@aHs _ _ _ _ _ _ _ (@aAl _ _ _ _ _ _ _ _ aJ8 (@aAk _ _ _ _ _ _ _ _ _ aBo rfl T.z_len aAz (@aAa _ _ _ _ _ (pv 1) (@aAc _) (by rfl)) (by decide) (by decide) (by rfl) (by rfl)) (@aAb _ _ _ _) (aAo _)) (@aGj _ _ _ _ (@aC7 _ _ _ _ (@aCq _ _ _ (@aAk _ _ _ _ _ _ _ _ _ (aJe rfl) rfl T.z_all aJg (@aAa _ _ _ _ _ (@aC8 _ _ _ _ _ _ _ _ _ _ _ _ _ _ (@aB7 _ _ (sc:=aAh aDz) (N:=["word","parts","time"]) (tn:=["part"]) (names:=[]) (is:=[]) rfl rfl (by decide +kernel) (by decide +kernel) rfl (by decide +kernel) rfl (by decide +kernel) (by decide +kernel) (by decide +kernel)) rfl (@aCb _ _ _ _ (pv 1)) (fun _ _ _ _=>(@aAx _ _ (i:=0) _ (show (["part"]:List Str).Nodup by decide +kernel) rfl (Or.inl rfl) (Or.inr rfl))) (fun _ _ _ _=>(@aAn _ _ _ _ _ _ _ _ _ _ o_is_written hr rfl (@aAa _ _ _ _ _ (pv 0) (@aAa _ _ _ _ _ (@aCe _ _ (v:=(.int 12)) _ _ rfl g_MOST_FIGURES ⟨_,rfl⟩ (by decide)) (@aAc _) (by rfl)) (by rfl)) (by decide) (by rfl) (by rfl))) (fun _ _ _ _=>(@aB9 _)) (by intro _; rfl)) (@aAc _) (by rfl)) (by decide) (by decide) (by rfl) (by rfl)) (by intro _; rfl)))))) (@aAf _ _ _ (@aAq _ _ _ _ (@aBj _ _ _))) (@aAu _)) (@aAe _ _ _ _ _ (@aA6 _ _ _ _ _ _ _ _ (@aAl _ _ _ _ _ _ _ _ (aA0 hr.units) (@aAk _ _ _ _ _ _ _ _ _ aBo rfl T.z_len aAz (@aAa _ _ _ _ _ (pv 1) (@aAc _) (by rfl)) (by decide) (by decide) (by rfl) (by rfl)) (@aAb _ _ _ _) (aAo _)) (@aAf _ _ _ (@aAq _ _ _ _ (@aBy _ _ _ _ _ (@aAa _ _ _ _ _ (@aA8 _ _ _ _ _ _ _ _ _ aO0 rfl T.z_int aJf (@aAa _ _ _ _ _ (pv 0) (@aAc _) (by rfl)) (by decide) (by decide) (by rfl) (by rfl)) (@aAa _ _ _ _ _ (@aAb _ _ _ _) (@aAc _) (by rfl)) (by rfl))))) (@aAu _)) (@aAe _ _ _ _ _ (@aAp _ _ (i:=2) _ _ _ _ aEa.nd rfl (by first | exact Or.inl rfl | exact Or.inr rfl) (@aBy _ _ _ _ _ (@aAa _ _ _ _ _ (@aA8 _ _ _ _ _ _ _ _ _ aO0 rfl T.z_int aJf (@aAa _ _ _ _ _ (@aAr _ _ _ _ _ _ _ aAt (pv 1) (@aAb _ _ _ _) (fun _ _=>rfl)) (@aAc _) (by rfl)) (by decide) (by decide) (by rfl) (by rfl)) (@aAa _ _ _ _ _ (@aA8 _ _ _ _ _ _ _ _ _ aO0 rfl T.z_int aJf (@aAa _ _ _ _ _ (@aAr _ _ _ _ _ _ _ aAt (pv 1) (@aAb _ _ _ _) (fun _ _=>rfl)) (@aAc _) (by rfl)) (by decide) (by decide) (by rfl) (by rfl)) (@aAc _) (by rfl)) (by rfl))) (by rfl) (by first | exact .inl rfl | exact .inr rfl | assumption)) (@aAf _ _ _ (@aAq _ _ _ _ (@aTn _ _ _ _ _ _ _ _ (@PW.pt _ _ _ (@aCf _ _ _ _ _ _ _ (@aAl _ _ _ _ _ _ _ _ aJ8 (@aAr _ _ _ _ _ _ _ aAt (pv 2) (@aAb _ _ _ _) (fun _ _=>rfl)) (@aAb _ _ _ _) (aAo _)) (@aCl _ _ _ _ (@aCq _ _ _ (@aAn _ _ _ _ _ _ _ _ _ _ o_is_fraction hr rfl (@aAa _ _ _ _ _ (pv 2) (@aAc _) (by rfl)) (by decide) (by rfl) (by rfl)) (by intro _; rfl))))) (pv 2) (@aBj _ _ _)))))))),?_⟩
  have ep:("/":Str)=⟨#[47]⟩:=by decide +kernel
  have hsh:∀ p∈Txt.split z ⟨#[47]⟩,p.length<=200000:=fun p hp=>Nat.le_trans (aDw hp) hz
  have hne:=aDv z ⟨#[47]⟩
  have ej:=StrLaws.join_split z ⟨#[47]⟩
  unfold tmO at q1 q2
  walk_at "go"
  rw [ep]
  refine aDk (z:=z) (y:=⟨#[47]⟩) (by decide) (by omega) fun l hl=>?_
  generalize Txt.split z ⟨#[47]⟩=ps at hsh hne ej q1 q2 ⊢
  have s1:=aAm.new (o:=.lst (ps.map V.str)) hl
  have g1:=aAd (H:=H) (a:=l) (o:=.lst (ps.map V.str))
  generalize L2.upd H l (.lst (ps.map V.str))=H1 at s1 g1 ⊢
  have hml:(ps.map V.str).length=ps.length:=List.length_map _
  by_cases h2:2 < ps.length
  ·walk_at "go"
   exact q2 (aP6 h2) _ s1
  have hp1:1<=ps.length:=List.length_pos_iff.mpr hne
  walk_at "go"
  refine aCa (SqL.of g1) ?_
  refine aJ2 (xs:=ps.map V.str) (by omega) (fun acc i ys G=>Kp acc H1 G/\ys=((ps.take i).map aCi).map V.bl) (fun acc h0=>⟨Kp.new h0,rfl⟩) ?_ ?_ ?_
  ·intro acc i ys G h0 _ ⟨kp,_⟩
   exact SqL.of (kp _ _ (aAg g1 h0) g1)
  ·intro acc i ys G x h0 hx hyl hG ⟨kp,e⟩
   rw [List.getElem?_map] at hx
   cases hy:ps[i]? with
   | none=>rw [hy] at hx; cases hx
   | some y =>
    rw [hy] at hx
    cases (Option.some.inj hx:V.str y=x)
    walk_at "go"
    refine ⟨y,rfl,hsh y (List.mem_of_getElem? hy),fun G1 t1=>?_⟩
    have hi:i < ps.length:=(List.getElem?_eq_some_iff.mp hy).1
    refine aDu (by omega) hyl (t1 _ _ hG) ⟨Kp.trans (Kp.trans kp t1.kp) Kp.upd,?_⟩
    rw [aCr hy,List.map_append,List.map_append,← e]
    rfl
  intro acc ys G h0 hG hyl ⟨kp,e⟩
  rw [hml,List.take_length] at e
  subst e
  have sG:aAm H1 G:=fun b o h=>kp _ _ (aAg h h0) h
  have gG:=sG _ _ g1
  walk_at "go"
  refine aI5 hG ?_
  rw [show (ps.map aCi).all id=ps.all aCi by rw [List.all_map]; rfl]
  cases hw:ps.all aCi with
  | false =>
   walk_at "go"
   exact q2 (aUo hw) _ (s1.trans sG)
  | true =>
   walk_at "go"
   rw [List.all_eq_true] at hw
   by_cases hd:ps.length=1
   ·obtain ⟨a,rfl⟩:∃ a,ps=[a]:=List.length_eq_one_iff.mp hd
    have e1:a=z:=ej
    subst e1
    have hwa:=hw a (by simp)
    obtain ⟨v1,v2,v3,v4⟩:=aEn hwa
    have hl1:(List.map V.str [a]).length=1:=rfl
    walk_at "go"
    refine ⟨_,aBn a,rfl,v1,by omega,?_⟩
    walk_at "go"
    refine aBr fun p hp=>?_
    walk_at "go"
    exact q1 _ _ _ (if_pos hwa) ((s1.trans sG).trans (aAm.new hp)) ⟨p,rfl,by rw [aAd]; rfl⟩
   ·obtain ⟨a,b,rfl⟩:∃ a b,ps=[a,b]:=by
     match ps,hp1,h2,hd with
     | [],h,_,_=>exact absurd h (by decide)
     | [a],_,_,h=>exact absurd rfl h
     | [a,b],_,_,_=>exact ⟨a,b,rfl⟩
     | _::_::_::r,_,h,_=>exact absurd (show 2 < r.length+1+1+1 by omega) h
    have hwa:=hw a (by simp)
    have hwb:=hw b (by simp)
    obtain ⟨v1,v2,v3,v4⟩:=aEn hwa
    obtain ⟨u1,u2,u3,u4⟩:=aEn hwb
    have hl1:(List.map V.str [a,b]).length=2:=rfl
    walk_at "go"
    refine ⟨_,aBn a,rfl,v1,by omega,?_⟩
    walk_at "go"
    refine ⟨_,aBn b,rfl,u1,by omega,?_⟩
    walk_at "go"
    refine aBr fun p hp=>?_
    have s2:=aAm.new (o:=.tup [.int (aBn a),.int (aBn b)]) hp
    have g2:=aAd (H:=G) (a:=p) (o:=.tup [.int (aBn a),.int (aBn b)])
    generalize L2.upd G p (.tup [.int (aBn a),.int (aBn b)])=G2 at s2 g2 ⊢
    have s12:=(s1.trans sG).trans s2
    by_cases hb1:1 < aBn b
    ·walk_at "go"
     have hf:Frq K G2 (.ref p) (frV (.int (aBn a)) (.int (aBn b))):=.inr (.inr ⟨p,_,_,rfl,g2,rfl,rfl,(fun a b ea eb=>by cases ea; cases eb; exact ⟨(Sm.of (n:=64) (by omega) (by omega)).mono (by decide),(Sm.of (n:=64) (by omega) (by omega)).mono (by decide)⟩),rfl⟩)
     refine ⟨_,_,rfl,hf,?_⟩
     rw [show frV (.int (aBn a)) (.int (aBn b))=(decide (1<=aBn b)&&decide (Int.gcd (aBn a) (aBn b)=1)) from rfl,decide_eq_true u2,Bool.true_and]
     by_cases hg:Int.gcd (aBn a) (aBn b)=1
     ·rw [decide_eq_true hg]
      walk_at "go"
      obtain ⟨m1,m2⟩:=aVb u2 hg
      exact q1 _ _ _ (if_pos ⟨hwa,hwb,by omega,hg⟩) s12 ⟨p,rfl,by rw [m1,m2]; exact g2⟩
     ·rw [decide_eq_false hg]
      walk_at "go"
      exact q2 (if_neg fun z=>hg z.2.2.2) _ s12
    ·walk_at "go"
     exact q2 (if_neg fun z=>z.2.2.1 (by omega)) _ s12
theorem aPj (T:Bl mg) (d:Df K mg "is_part" aFh ["text"]  ) (W:XmS mg xt x0 x1 x4 x5 x10) (R_NoText:XrS K xt x0 x1 x4 x5 x10 x5 5) {tk_LETTERS:Tok} (g_LETTERS:mg "LETTERS"=some (.str "abcdefghijklmnopqrstuvwxyz" tk_LETTERS)) {tk_MOST_LETTERS:Tok} (g_MOST_LETTERS:mg "MOST_LETTERS"=some (.int 8 tk_MOST_LETTERS)):Okf P w K mg base (k+1) "is_part" ["text"] aN1:=by
 refine Okf.of d aO9 (fun vs H Q E h=>?_) (fun f cdv A outer s H vs Q E hr h=>?_)
 ·obtain ⟨z,rfl,_⟩:=h
  rfl
 ·obtain ⟨z,rfl,hz,q⟩:=h
  refine ⟨_,(@aAf _ _ _ (@aAq _ _ _ _ (@aEg _ _ _ _ _ _ _ (@aG5 _ _ _ _ _ _ _ _ _ _ _ _ aF6 aF6 (@aAb _ _ _ _) (@aAk _ _ _ _ _ _ _ _ _ aBo rfl T.z_len aAz (@aAa _ _ _ _ _ (pv 0) (@aAc _) (by rfl)) (by decide) (by decide) (by rfl) (by rfl)) (@aCe _ _ (v:=(.int 8)) _ _ rfl g_MOST_LETTERS ⟨_,rfl⟩ (by decide)) (by with_unfolding_all rfl)) (@aFl _ _ _ _ _ (@aAk _ _ _ _ _ _ _ _ _ (aJe rfl) rfl T.z_all aJg (@aAa _ _ _ _ _ (@aC8 _ _ _ _ _ _ _ _ _ _ _ _ _ _ (@aB7 _ _ (sc:=aAh aFh) (N:=["text"]) (tn:=["sign"]) (names:=[]) (is:=[]) rfl rfl (by decide +kernel) (by decide +kernel) rfl (by decide +kernel) rfl (by decide +kernel) (by decide +kernel) (by decide +kernel)) rfl (@aG4 _ _ _ _ (pv 0)) (fun _ _ _ _=>(@aAx _ _ (i:=0) _ (show (["sign"]:List Str).Nodup by decide +kernel) rfl (Or.inl rfl) (Or.inr rfl))) (fun _ _ _ _=>(@aB3 _ _ _ _ _ _ _ _ aRa (pv 0) (@aCe _ _ (v:=(.str "abcdefghijklmnopqrstuvwxyz")) _ _ rfl g_LETTERS ⟨_,rfl⟩ (by decide)) (by with_unfolding_all rfl))) (fun _ _ _ _=>(@aB9 _)) (by intro _; rfl)) (@aAc _) (by rfl)) (by decide) (by decide) (by rfl) (by rfl)))))),?_⟩
  walk_at "go"
  have hzs:z.length<=sizeLine:=by rw [sizeLine_eq]; omega
  refine aI4 hzs ?_
  walk_at "go"
  refine i_d (fun c1=>?_) (fun c1=>?_)
  ·walk_at "go"
   refine i_d (fun c2=>?_) (fun c2=>?_)
   ·walk_at "go"
    refine ⟨z,rfl,?_⟩
    refine aQ0 (by omega) (fun acc i ys G=>Kp acc H G/\ys=(z.cps.toList.take i).map fun c=>V.bl (decide (97<=c)&&decide (c < 123))) (fun acc h0=>⟨Kp.new h0,rfl⟩) ?_ ?_
    ·intro acc i ys G c h0 hx hyl hG ⟨kp,e⟩
     walk_at "go"
     have hx':z.cps.toList[i]?=some c:=by simpa using hx
     have hi:i < z.cps.toList.length:=(List.getElem?_eq_some_iff.mp hx').1
     refine aDu (by rw [aBt]; exact hi) hyl hG ⟨Kp.trans kp Kp.upd,?_⟩
     have e2:z.cps.toList[i]=c:=by
      rw [List.getElem?_eq_getElem hi] at hx'
      exact Option.some.inj hx'
     rw [List.take_succ_eq_append_getElem hi,List.map_append,← e,e2,aH1]
     rfl
    ·intro acc ys G h0 hG hl ⟨kp,e⟩
     walk_at "go"
     rw [aBt,List.take_length] at e
     subst e
     have e3:(z.cps.toList.map fun c=>V.bl (decide (97<=c)&&decide (c < 123)))=(z.cps.toList.map fun c=>(decide (97<=c)&&decide (c < 123))).map V.bl:=by rw [List.map_map]; rfl
     rw [e3] at hG
     refine aI5 hG ?_
     walk_at "go"
     have e4:(z.cps.toList.map fun c=>(decide (97<=c)&&decide (c < 123))).all id=aA3 z:=by
      unfold aA3
      rw [decide_eq_true (show 1<=z.length by omega),decide_eq_true (show z.length<=8 by omega),Bool.and_true,Bool.true_and,List.all_map]
      rfl
     rw [e4]
     exact q _ (aAm.kpn h0 (aAm.refl _) kp)
   ·walk_at "go"
    have e:aA3 z=false:=by
     unfold aA3
     rw [decide_eq_false (show ¬ z.length<=8 by omega),Bool.and_false,Bool.false_and]
    rw [e] at q
    exact q _ (aAm.refl _)
  ·walk_at "go"
   have e:aA3 z=false:=by
    unfold aA3
    rw [decide_eq_false (show ¬ 1<=z.length by omega),Bool.false_and,Bool.false_and]
   rw [e] at q
   exact q _ (aAm.refl _)
theorem aPi (T:Bl mg) (d:Df K mg "is_post" aFg ["thing"]  ) (W:XmS mg xt x0 x1 x4 x5 x10) (R_NoText:XrS K xt x0 x1 x4 x5 x10 x5 5) {tk_MOST_PARTS:Tok} (g_MOST_PARTS:mg "MOST_PARTS"=some (.int 4 tk_MOST_PARTS)) (o_is_part:Okf P w K mg base k "is_part" ["text"] aN1):Okf P w K mg base (k+1) "is_post" ["thing"] (aUs K):=by
 refine Okf.of d aI1 (fun vs H Q E h=>?_) (fun f cdv A outer s H vs Q E hr h=>?_)
 ·obtain ⟨x,b,rfl,_⟩:=h
  rfl
 ·obtain ⟨x,b,rfl,h,q⟩:=h
  refine ⟨_,(@aAe _ _ _ _ _ (@aA6 _ _ _ _ _ _ _ _ (@aC7 _ _ _ _ (@aCq _ _ _ (@aAk _ _ _ _ _ _ _ _ _ (aEm (T:="str")) rfl T.z_isinstance aBs (@aAa _ _ _ _ _ (pv 0) (@aAa _ _ _ _ _ (@aF5 _ _ (v:=.ty "str") _ _ rfl T.z_str aMb rfl (by decide) (by decide)) (@aAc _) (by rfl)) (by rfl)) (by decide) (by decide) (by rfl) (by rfl)) (by intro _; rfl))) (@aAf _ _ _ (@aAq _ _ _ _ (@aJ7 _ _ _ _))) (@aAu _)) (@aAe _ _ _ _ _ (@aAp _ _ (i:=1) _ _ _ _ aI1.nd rfl (by first | exact Or.inl rfl | exact Or.inr rfl) (@aB4 _ _ _ _ _ _ _ _ _ _ _ _ PySem.F.plainAttrs_str PySem.F.slot_str_split PySem.F.type_str_split aCu (pv 0) (@aAa _ _ _ _ _ (@aAi _ _ _ _) (@aAc _) (by rfl)) (by rfl) (by rfl) (by rfl) (by rfl) (by rfl)) (by rfl) (by first | exact .inl rfl | exact .inr rfl | assumption)) (@aAf _ _ _ (@aAq _ _ _ _ (@aEg _ _ _ _ _ _ _ (@aB3 _ _ _ _ _ _ _ _ aF6 (@aAk _ _ _ _ _ _ _ _ _ aBo rfl T.z_len aAz (@aAa _ _ _ _ _ (pv 1) (@aAc _) (by rfl)) (by decide) (by decide) (by rfl) (by rfl)) (@aCe _ _ (v:=(.int 4)) _ _ rfl g_MOST_PARTS ⟨_,rfl⟩ (by decide)) (aAo _)) (@aFl _ _ _ _ _ (@aAk _ _ _ _ _ _ _ _ _ (aJe rfl) rfl T.z_all aJg (@aAa _ _ _ _ _ (@aC8 _ _ _ _ _ _ _ _ _ _ _ _ _ _ (@aB7 _ _ (sc:=aAh aFg) (N:=["thing","parts"]) (tn:=["part"]) (names:=[]) (is:=[]) rfl rfl (by decide +kernel) (by decide +kernel) rfl (by decide +kernel) rfl (by decide +kernel) (by decide +kernel) (by decide +kernel)) rfl (@aCb _ _ _ _ (pv 1)) (fun _ _ _ _=>(@aAx _ _ (i:=0) _ (show (["part"]:List Str).Nodup by decide +kernel) rfl (Or.inl rfl) (Or.inr rfl))) (fun _ _ _ _=>(@aAn _ _ _ _ _ _ _ _ _ _ o_is_part hr rfl (@aAa _ _ _ _ _ (pv 0) (@aAc _) (by rfl)) (by decide) (by rfl) (by rfl))) (fun _ _ _ _=>(@aB9 _)) (by intro _; rfl)) (@aAc _) (by rfl)) (by decide) (by decide) (by rfl) (by rfl)))))))),?_⟩
  rcases h with ⟨z,rfl,hz,rfl⟩ | ⟨⟨t,ty,e1⟩,rfl⟩
  ·walk_at "go"
   refine aFj (.str z) aH4 ?_
   walk_at "go"
   have ep:(".":Str)=⟨#[46]⟩:=by decide +kernel
   rw [ep]
   refine aDk (z:=z) (y:=⟨#[46]⟩) (by decide) (by omega) fun l hl=>?_
   have hps:=aF4 z
   have hsh:∀ p∈Txt.split z ⟨#[46]⟩,p.length<=200000:=fun p hp=>Nat.le_trans (aDw hp) hz
   have hsl:=aIu z ⟨#[46]⟩
   generalize Txt.split z ⟨#[46]⟩=ps at hps hsh hsl ⊢
   walk_at "go"
   rw [List.length_map]
   refine i_d (fun c=>?_) (fun c=>?_)
   ·walk_at "go"
    refine aCa (SqL.of aAd) ?_
    refine aJ2 (xs:=ps.map V.str) (by rw [List.length_map]; omega) (fun acc i ys G=>Kp acc (upd H l (.lst (ps.map V.str))) G/\ys=(ps.take i).map fun p=>V.bl (aA3 p)) (fun acc h0=>⟨Kp.new h0,rfl⟩) ?_ ?_ ?_
    ·intro acc i ys G h0 _ ⟨kp,_⟩
     exact SqL.of (kp _ _ (aAg aAd h0) aAd)
    ·intro acc i ys G x h0 hx hyl hG ⟨kp,e⟩
     rw [List.getElem?_map] at hx
     cases hy:ps[i]? with
     | none=>rw [hy] at hx; cases hx
     | some y =>
      rw [hy] at hx
      cases (Option.some.inj hx:V.str y=x)
      walk_at "go"
      refine ⟨y,rfl,hsh y (List.mem_of_getElem? hy),fun G1 s1=>?_⟩
      have hi:i < ps.length:=(List.getElem?_eq_some_iff.mp hy).1
      refine aDu (by rw [List.length_map]; exact hi) hyl (s1 _ _ hG) ⟨Kp.trans (Kp.trans kp s1.kp) Kp.upd,?_⟩
      have e2:ps[i]=y:=by
       rw [List.getElem?_eq_getElem hi] at hy
       exact Option.some.inj hy
      rw [List.take_succ_eq_append_getElem hi,List.map_append,← e,e2]
      rfl
    ·intro acc ys G h0 hG hyl ⟨kp,e⟩
     rw [List.length_map,List.take_length] at e
     subst e
     walk_at "go"
     have e3:(ps.map fun p=>V.bl (aA3 p))=(ps.map aA3).map V.bl:=by rw [List.map_map]; rfl
     rw [e3] at hG
     refine aI5 hG ?_
     walk_at "go"
     have e4:(ps.map aA3).all id=aBx z:=by
      rw [hps,decide_eq_true (show ps.length<=4 by omega),Bool.true_and,List.all_map]
      rfl
     rw [e4]
     exact q _ ((aAm.new hl).trans (aAm.kpn h0 (aAm.refl _) kp))
   ·walk_at "go"
    rw [decide_eq_false (show ¬ ps.length<=4 by omega),Bool.false_and] at hps
    rw [hps] at q
    exact q _ (aAm.new hl)
  ·walk_at "go"
   refine aFj ty e1 ?_
   walk_at "go"
   exact q _ (aAm.refl _)
theorem aGo (T:Bl mg) (d:Df K mg "refuse_unless" aC6 ["holds","words"] ) (W:XmS mg xt x0 x1 x4 x5 x10) (R_NoText:XrS K xt x0 x1 x4 x5 x10 x5 5):aC0 P w K mg base (k+1) "refuse_unless" ["holds","words"] [] (aD9 x5):=by
 refine aC0.of d aD4 (fun vs H Q E h=>?_) (fun f cdv A outer s H vs Q E hr h=>?_)
 ·obtain ⟨b,l,ws,rfl,_⟩:=h
  rfl
 ·obtain ⟨b,l,ws,rfl,hl,hn,q1,q2⟩:=h
  refine ⟨_,(@aAf _ _ _ (@aA6 _ _ _ _ _ _ _ _ (@aC7 _ _ _ _ (@aCq _ _ _ (pv 0) (by intro _; rfl))) (@aAe _ _ _ _ _ (@aAp _ _ (i:=2) _ _ _ _ aD4.nd rfl (by first | exact Or.inl rfl | exact Or.inr rfl) (@aB4 _ _ _ _ _ _ _ _ _ _ _ _ PySem.F.plainAttrs_str PySem.F.slot_str_join PySem.F.type_str_join aE8 (@aAi _ _ _ _) (@aAa _ _ _ _ _ (pv 1) (@aAc _) (by rfl)) (by rfl) (by rfl) (by rfl) (by rfl) (by rfl)) (by rfl) (by first | exact .inl rfl | exact .inr rfl | assumption)) (@aAf _ _ _ (@aFk _ _ _ _ _ _ _ _ _ _ (fun _ _ _ _ _ _ _ _ I m q=>aNq I m q) rfl rfl W.m_NoText R_NoText.e (@aAa _ _ _ _ _ (@bAz _ _ _ _ _ _ (@aHu _ _ _ _ _ (@aAi _ _ _ _) (@aHu _ _ _ _ _ (@bA2 _ _ _ _ (pv 2)) (@aU5 _))) (by decide)) (@aAc _) (by rfl)) (by decide) (by rfl) (by rfl)))) (@aAu _))),?_⟩
  cases b with
  | true =>
   walk_at "go"
   exact q1 rfl
  | false =>
   walk_at "go"
   refine ⟨_,l,ws,rfl,rfl,hl,by show _+ws.length * 1<=_; omega,?_⟩
   have hj:(Str.join " " ws).length<=200000:=by
    have:=aNc " " ws
    have e:((" ":Str)).length=1:=by decide +kernel
    rw [e] at this
    omega
   walk_at "go"
   refine aZp (by decide +kernel) ?_
   walk_at "go"
   refine r_fsK hj ?_
   walk_at "go"
   refine aZp hj ?_
   walk_at "go"
   exact ⟨by rw [sizeLine_eq]; exact (by decide:1<=16777216),q2 rfl _ (aAm.refl _)⟩
set_option maxHeartbeats 0 in
theorem aM2 (T:Bl mg) (d:Df K mg "posts_in" aEs ["words","told"] ) (W:XmS mg xt x0 x1 x4 x5 x10) (R_NoText:XrS K xt x0 x1 x4 x5 x10 x5 5) (o_is_post:Okf P w K mg base k "is_post" ["thing"] (aUs K)) (o_refuse_unless:aC0 P w K mg base k "refuse_unless" ["holds","words"] [] (aD9 x5)):aC0 P w K mg base (k+1) "posts_in" ["words","told"] [] (aDx K x5):=by
 refine aC0.of d aMm (fun vs H Q E h=>?_) (fun f cdv A outer s H vs Q E hr h=>?_)
 ·obtain ⟨lw,ws,l,ps,rfl,_⟩:=h
  rfl
 ·obtain ⟨lw,ws,l,ps,rfl,hlw,hw,hl,hp,q1,q2⟩:=h
  refine ⟨_,(@aAe _ _ _ _ _ (@aBh _ _ _ _ (@aA9 _ _ _ _ _ _ _ _ _ _ _ _ o_refuse_unless hr rfl aDd (@aAa _ _ _ _ _ (@aAk _ _ _ _ _ _ _ _ _ (aJe rfl) rfl T.z_all aJg (@aAa _ _ _ _ _ (@aC8 _ _ _ _ _ _ _ _ _ _ _ _ _ _ (@aB7 _ _ (sc:=aAh aEs) (N:=["words","told"]) (tn:=["word"]) (names:=[]) (is:=[]) rfl rfl (by decide +kernel) (by decide +kernel) rfl (by decide +kernel) rfl (by decide +kernel) (by decide +kernel) (by decide +kernel)) rfl (@aCb _ _ _ _ (pv 1)) (fun _ _ _ _=>(@aAx _ _ (i:=0) _ (show (["word"]:List Str).Nodup by decide +kernel) rfl (Or.inl rfl) (Or.inr rfl))) (fun _ _ _ _=>(@aAn _ _ _ _ _ _ _ _ _ _ o_is_post hr rfl (@aAa _ _ _ _ _ (pv 0) (@aAc _) (by rfl)) (by decide) (by rfl) (by rfl))) (fun _ _ _ _=>(@aB9 _)) (by intro _; rfl)) (@aAc _) (by rfl)) (by decide) (by decide) (by rfl) (by rfl)) (@aAa _ _ _ _ _ (pv 0) (@aAc _) (by rfl)) (by rfl)) (by decide) (by rfl) (by rfl)) (by rfl)) (@aAf _ _ _ (@aAq _ _ _ _ (@aA8 _ _ _ _ _ _ _ _ _ aBe rfl T.z_tuple aCo (@aAa _ _ _ _ _ (pv 1) (@aAc _) (by rfl)) (by decide) (by decide) (by rfl) (by rfl))))),?_⟩
  have hml:(ps.map V.str).length=ps.length:=List.length_map _
  have hpl:=aG8 ps
  walk_at "go"
  refine aCa (SqL.of hl) ?_
  refine aJ1 (xs:=ps.map V.str) (by omega) (fun acc i ys G=>Kp acc H G/\ys=((ps.take i).map aBx).map V.bl) (fun acc h0=>⟨Kp.new h0,rfl⟩) ?_ ?_ ?_
  ·intro acc i ys G h0 _ ⟨kp,_⟩
   exact SqL.of (kp _ _ (aAg hl h0) hl)
  ·intro acc i ys G x h0 hx hyl hG ⟨kp,e⟩
   rw [List.getElem?_map] at hx
   cases hy:ps[i]? with
   | none=>rw [hy] at hx; cases hx
   | some y =>
    rw [hy] at hx
    cases (Option.some.inj hx:V.str y=x)
    walk_at "go"
    refine ⟨_,aBx y,rfl,.inl ⟨y,rfl,by have:=aIs (List.mem_of_getElem? hy); omega,rfl⟩,fun G1 t1=>?_⟩
    have hi:i < ps.length:=(List.getElem?_eq_some_iff.mp hy).1
    refine aDu (by omega) hyl (t1 _ _ hG) ⟨Kp.trans (Kp.trans kp t1.kp) Kp.upd,?_⟩
    rw [aCr hy,List.map_append,List.map_append,← e]
    rfl
  intro acc ys G h0 hG hyl ⟨kp,e⟩
  rw [hml,List.take_length] at e
  subst e
  have sG:aAm H G:=fun b o h=>kp _ _ (aAg h h0) h
  have gG:=sG _ _ hl
  walk_at "go"
  refine aI5 hG ?_
  rw [show (ps.map aBx).all id=ps.all aBx by rw [List.all_map]; rfl]
  walk_at "go"
  refine ⟨_,lw,ws,rfl,sG _ _ hlw,hw,fun hb=>?_,fun hb H' s'=>q2 hb H' (sG.trans s')⟩
  walk_at "go"
  refine ⟨l,_,rfl,.inl ⟨SqL.of gG,fun p hp=>?_⟩⟩
  walk_at "go"
  exact q1 hb p _ (sG.trans (aAm.new hp)) aAd
set_option maxHeartbeats 0 in
theorem aPg (T:Bl mg) (d:Df K mg "time_in" aHn ["words","word"] ) (W:XmS mg xt x0 x1 x4 x5 x10) (R_NoText:XrS K xt x0 x1 x4 x5 x10 x5 5) (o_refuse_unless:aC0 P w K mg base k "refuse_unless" ["holds","words"] [] (aD9 x5)) (o_read_time:Okf P w K mg base k "read_time" ["word"] aK3):aC0 P w K mg base (k+1) "time_in" ["words","word"] [] (aF1 x5):=by
 refine aC0.of d aI0 (fun vs H Q E h=>?_) (fun f cdv A outer s H vs Q E hr h=>?_)
 ·obtain ⟨lw,ws,z,rfl,_⟩:=h
  rfl
 ·obtain ⟨lw,ws,z,rfl,hlw,hw,hz,q1,q2⟩:=h
  refine ⟨_,(@aAe _ _ _ _ _ (@aAp _ _ (i:=2) _ _ _ _ aI0.nd rfl (by first | exact Or.inl rfl | exact Or.inr rfl) (@aAn _ _ _ _ _ _ _ _ _ _ o_read_time hr rfl (@aAa _ _ _ _ _ (pv 1) (@aAc _) (by rfl)) (by decide) (by rfl) (by rfl)) (by rfl) (by first | exact .inl rfl | exact .inr rfl | assumption)) (@aAe _ _ _ _ _ (@aBh _ _ _ _ (@aA9 _ _ _ _ _ _ _ _ _ _ _ _ o_refuse_unless hr rfl aDd (@aAa _ _ _ _ _ (@aB3 _ _ _ _ _ _ _ _ aCt (pv 2) (@aBj _ _ _) (aAo _)) (@aAa _ _ _ _ _ (pv 0) (@aAc _) (by rfl)) (by rfl)) (by decide) (by rfl) (by rfl)) (by rfl)) (@aAf _ _ _ (@aAq _ _ _ _ (pv 2))))),?_⟩
  walk_at "go"
  refine ⟨z,rfl,hz,fun t u H1 et s1 fu=>?_,fun en H1 s1=>?_⟩
  ·obtain ⟨p,rfl,hp⟩:=id fu
   walk_at "go"
   refine ⟨_,lw,ws,rfl,s1 _ _ hlw,hw,fun hb=>?_,fun hb=>by cases hb⟩
   walk_at "go"
   exact q1 _ _ _ et s1 fu
  ·walk_at "go"
   exact ⟨_,lw,ws,rfl,s1 _ _ hlw,hw,fun hb=>(by cases hb),fun hb H' s'=>q2 en _ (s1.trans s')⟩
set_option maxHeartbeats 0 in
theorem aRc (T:Bl mg) (d:Df K mg "run_in" aJt ["words"] ) (W:XmS mg xt x0 x1 x4 x5 x10) (R_NoText:XrS K xt x0 x1 x4 x5 x10 x5 5) (o_time_in:aC0 P w K mg base k "time_in" ["words","word"] [] (aF1 x5)) (o_posts_in:aC0 P w K mg base k "posts_in" ["words","told"] [] (aDx K x5)) (o_refuse_unless:aC0 P w K mg base k "refuse_unless" ["holds","words"] [] (aD9 x5)):aC0 P w K mg base (k+1) "run_in" ["words"] [] (aK1 K x5):=by
 refine aC0.of d aLd (fun vs H Q E h=>?_) (fun f cdv A outer s H vs Q E hr h=>?_)
 ·obtain ⟨l,r,rfl,_⟩:=h
  rfl
 ·obtain ⟨l,r,rfl,hl,hw,q1,q2⟩:=h
  refine ⟨_,(@aAe _ _ _ _ _ (@aBh _ _ _ _ (@aA9 _ _ _ _ _ _ _ _ _ _ _ _ o_refuse_unless hr rfl aDd (@aAa _ _ _ _ _ (@aB3 _ _ _ _ _ _ _ _ (aA0 hr.units) (@aAk _ _ _ _ _ _ _ _ _ aBo rfl T.z_len aAz (@aAa _ _ _ _ _ (pv 0) (@aAc _) (by rfl)) (by decide) (by decide) (by rfl) (by rfl)) (@aAb _ _ _ _) (aAo _)) (@aAa _ _ _ _ _ (pv 0) (@aAc _) (by rfl)) (by rfl)) (by decide) (by rfl) (by rfl)) (by rfl)) (@aAe _ _ _ _ _ (@aAp _ _ (i:=1) _ _ _ _ aLd.nd rfl (by first | exact Or.inl rfl | exact Or.inr rfl) (@aA9 _ _ _ _ _ _ _ _ _ _ _ _ o_posts_in hr rfl aDd (@aAa _ _ _ _ _ (pv 0) (@aAa _ _ _ _ _ (@aAy _ _ _ _ _ _ _ _ _ _ aBv (pv 0) (@aBb _ _ _ (@aAb _ _ _ _)) (@aBb _ _ _ (@aAb _ _ _ _))) (@aAc _) (by rfl)) (by rfl)) (by decide) (by rfl) (by rfl)) (by rfl) (by first | exact .inl rfl | exact .inr rfl | assumption)) (@aAf _ _ _ (@aAq _ _ _ _ (@aBy _ _ _ _ _ (@aAa _ _ _ _ _ (@aAi _ _ _ _) (@aAa _ _ _ _ _ (@aAr _ _ _ _ _ _ _ aAt (pv 1) (@aAb _ _ _ _) (fun _ _=>rfl)) (@aAa _ _ _ _ _ (@aAr _ _ _ _ _ _ _ aAt (pv 1) (@aAb _ _ _ _) (fun _ _=>rfl)) (@aAa _ _ _ _ _ (@aA9 _ _ _ _ _ _ _ _ _ _ _ _ o_time_in hr rfl aDd (@aAa _ _ _ _ _ (pv 0) (@aAa _ _ _ _ _ (@aAr _ _ _ _ _ _ _ aAt (pv 0) (@aAb _ _ _ _) (fun _ _=>rfl)) (@aAc _) (by rfl)) (by rfl)) (by decide) (by rfl) (by rfl)) (@aAc _) (by rfl)) (by rfl)) (by rfl)) (by rfl))))))),?_⟩
  have hml:(List.map V.str (("run":Str)::r)).length=r.length+1:=by rw [List.length_map,List.length_cons]
  by_cases h3:r.length=3
  ·obtain ⟨a,b,c,rfl⟩:∃ a b c,r=[a,b,c]:=by
    match r,h3 with
    | [a,b,c],_=>exact ⟨a,b,c,rfl⟩
   replace hl:H l=some (.lst [.str "run",.str a,.str b,.str c]):=hl
   have hwt:=hw
   rw [aBd,aBd,aBd,aBd,aIr] at hwt
   have hl4:([V.str "run",.str a,.str b,.str c]:List V).length=4:=rfl
   walk_at "go"
   refine ⟨_,l,["run",a,b,c],rfl,hl,hw,fun hb=>?_,fun hb=>by cases hb⟩
   walk_at "go"
   refine aEb hl fun l1 hl1=>?_
   have s1:=aAm.new (o:=.lst (aDs [.str "run",.str a,.str b,.str c] (some 1) (some 3))) hl1
   have g1:=aAd (H:=H) (a:=l1) (o:=.lst (aDs [.str "run",.str a,.str b,.str c] (some 1) (some 3)))
   generalize L2.upd H l1 (.lst (aDs [.str "run",.str a,.str b,.str c] (some 1) (some 3)))=H1 at s1 g1 ⊢
   replace g1:H1 l1=some (.lst ([a,b].map V.str)):=g1
   have eb:[a,b].all aBx=(aBx a&&aBx b):=by simp
   walk_at "go"
   refine ⟨l,["run",a,b,c],l1,[a,b],rfl,s1 _ _ hl,hw,g1,by rw [aBd,aBd,aIr]; omega,fun hp p H2 s2 gp=>?_,fun hp H2 s2=>q2 (if_neg fun z=>?_) H2 (s1.trans s2)⟩
   rotate_left
   ·rw [eb,z.1,z.2] at hp
    cases hp
   rw [eb,Bool.and_eq_true] at hp
   replace gp:H2 p=some (.tup [.str a,.str b]):=gp
   have hl2:=s2 _ _ (s1 _ _ hl)
   walk_at "go"
   refine ⟨l,["run",a,b,c],c,rfl,hl2,hw,by omega,fun t v H3 et s3 fv=>?_,fun en H3 s3=>q2 ?_ H3 ((s1.trans s2).trans s3)⟩
   ·walk_at "go"
    refine aBr fun p9 hp9=>?_
    walk_at "go"
    exact q1 (.plain (.run a b t)) _ _ (by show (if _ then _ else _)=_; rw [if_pos hp,et]; rfl) (((s1.trans s2).trans s3).trans (aAm.new hp9)) ⟨p9,v,rfl,aAd,fv.tk (TK.new hp9)⟩
   ·show (if _ then _ else _)=_
    rw [if_pos hp,en]
    rfl
  ·have en:aTb r=none:=by
    match r,h3 with
    | [],_=>rfl
    | [_],_=>rfl
    | [_,_],_=>rfl
    | [_,_,_],h=>exact absurd rfl h
    | _::_::_::_::_,_=>rfl
   walk_at "go"
   rw [show decide (((List.map V.str (("run":Str)::r)).length:Int)=4)=false from decide_eq_false (by omega)]
   exact ⟨_,l,"run"::r,rfl,hl,hw,fun hb=>(by cases hb),fun hb H' s'=>q2 en H' s'⟩
set_option maxHeartbeats 0 in
theorem aHy (T:Bl mg) (d:Df K mg "posts_row_in" aDh ["words"] ) (W:XmS mg xt x0 x1 x4 x5 x10) (R_NoText:XrS K xt x0 x1 x4 x5 x10 x5 5) {ad_FEWEST_POSTS:Addr} (gd_FEWEST_POSTS:mg "FEWEST_POSTS"=some (.ref ad_FEWEST_POSTS)) (kd_FEWEST_POSTS:aVp P w K ad_FEWEST_POSTS [(Sum.inr "row",.int 2),(Sum.inr "star",.int 2),(Sum.inr "ring",.int 3)]) (o_posts_in:aC0 P w K mg base k "posts_in" ["words","told"] [] (aDx K x5)) (o_time_in:aC0 P w K mg base k "time_in" ["words","word"] [] (aF1 x5)) (o_refuse_unless:aC0 P w K mg base k "refuse_unless" ["holds","words"] [] (aD9 x5)):aC0 P w K mg base (k+1) "posts_row_in" ["words"] [] (aGg K x5):=by
 refine aC0.of d aHh (fun vs H Q E h=>?_) (fun f cdv A outer s H vs Q E hr h=>?_)
 ·obtain ⟨l,k,r,rfl,_⟩:=h
  rfl
 ·obtain ⟨l,k,r,rfl,hl,hw,q1,q2⟩:=h
  refine ⟨_,(@aAe _ _ _ _ _ (@aBh _ _ _ _ (@aA9 _ _ _ _ _ _ _ _ _ _ _ _ o_refuse_unless hr rfl aDd (@aAa _ _ _ _ _ (@aB3 _ _ _ _ _ _ _ _ aTr (@aAk _ _ _ _ _ _ _ _ _ aBo rfl T.z_len aAz (@aAa _ _ _ _ _ (pv 0) (@aAc _) (by rfl)) (by decide) (by decide) (by rfl) (by rfl)) (@aAj _ _ _ _ _ _ _ _ aAs (@aAb _ _ _ _) (@aWr _ _ _ _ _ _ _ _ rfl gd_FEWEST_POSTS kd_FEWEST_POSTS (@aAr _ _ _ _ _ _ _ aAt (pv 0) (@aAb _ _ _ _) (fun _ _=>rfl)) (fun _ _=>rfl) (by decide))) (aAo _)) (@aAa _ _ _ _ _ (pv 0) (@aAc _) (by rfl)) (by rfl)) (by decide) (by rfl) (by rfl)) (by rfl)) (@aAf _ _ _ (@aAq _ _ _ _ (@aBy _ _ _ _ _ (@aAa _ _ _ _ _ (@aAr _ _ _ _ _ _ _ aAt (pv 0) (@aAb _ _ _ _) (fun _ _=>rfl)) (@aAa _ _ _ _ _ (@aA9 _ _ _ _ _ _ _ _ _ _ _ _ o_time_in hr rfl aDd (@aAa _ _ _ _ _ (pv 0) (@aAa _ _ _ _ _ (@aAr _ _ _ _ _ _ _ aAt (pv 0) (@aAb _ _ _ _) (fun _ _=>rfl)) (@aAc _) (by rfl)) (by rfl)) (by decide) (by rfl) (by rfl)) (@aAa _ _ _ _ _ (@aA9 _ _ _ _ _ _ _ _ _ _ _ _ o_posts_in hr rfl aDd (@aAa _ _ _ _ _ (pv 0) (@aAa _ _ _ _ _ (@aAy _ _ _ _ _ _ _ _ _ _ aBv (pv 0) (@aBb _ _ _ (@aAb _ _ _ _)) (@aBi _)) (@aAc _) (by rfl)) (by rfl)) (by decide) (by rfl) (by rfl)) (@aAc _) (by rfl)) (by rfl)) (by rfl)))))),?_⟩
  have hml:(List.map V.str (k.nm::r)).length=r.length+1:=by rw [List.length_map,List.length_cons]
  have a0:atI (List.map V.str (k.nm::r)) 0=some (.str k.nm):=show atI _ ((0:Nat):Int)=_ from aA7 rfl
  have hk2:2<=fpN k:=by cases k <;> decide
  walk_at "go"
  refine aBa hl a0 ?_
  refine r_kgS (aXh k) ?_
  walk_at "go"
  by_cases hb:2+fpN k<=((List.map V.str (k.nm::r)).length:Int)
  ·rw [decide_eq_true hb]
   obtain ⟨z,ps,rfl⟩:∃ z ps,r=z::ps:=by
    cases r with
    | nil=>rw [hml] at hb; simp at hb; omega
    | cons z ps=>exact ⟨z,ps,rfl⟩
   have hwt:=hw
   rw [aBd,aBd] at hwt
   have hm2:(List.map V.str (k.nm::z::ps)).length=ps.length+2:=by rw [List.length_map,List.length_cons,List.length_cons]
   have hfe:fpN k<=(ps.length:Int):=by omega
   have a1:atI (List.map V.str (k.nm::z::ps)) 1=some (.str z):=show atI _ ((1:Nat):Int)=_ from aA7 rfl
   refine ⟨_,l,k.nm::z::ps,rfl,hl,hw,fun _=>?_,fun hb=>by cases hb⟩
   walk_at "go"
   refine aBa hl a0 ?_
   walk_at "go"
   refine aBa hl a1 ?_
   walk_at "go"
   refine ⟨l,k.nm::z::ps,z,rfl,hl,hw,by omega,fun t v H1 et s1 fv=>?_,fun en H1 s1=>q2 ?_ H1 s1⟩
   rotate_left
   ·show (if _ then Option.map _ (tmO z) else none)=none
    rw [en]
    split <;> rfl
   have hl1:=s1 _ _ hl
   walk_at "go"
   refine aEb hl1 fun l2 hl2=>?_
   rw [show aDs (List.map V.str (k.nm::z::ps)) (some 2) none=ps.map V.str from aCw (xs:=List.map V.str (k.nm::z::ps)) 2 (by omega)]
   have s2:=aAm.new (o:=.lst (ps.map V.str)) hl2
   have g2:=aAd (H:=H1) (a:=l2) (o:=.lst (ps.map V.str))
   generalize L2.upd H1 l2 (.lst (ps.map V.str))=H2 at s2 g2 ⊢
   walk_at "go"
   refine ⟨l,k.nm::z::ps,l2,ps,rfl,s2 _ _ hl1,hw,g2,by omega,fun hp p H3 s3 gp=>?_,fun hp H3 s3=>q2 (if_neg fun z=>?_) H3 ((s1.trans s2).trans s3)⟩
   rotate_left
   ·rw [z.2] at hp
    cases hp
   walk_at "go"
   refine aBr fun p9 hp9=>?_
   walk_at "go"
   have s9:=aAm.new (o:=.tup [.str k.nm,v,.ref p]) hp9
   exact q1 (.plain (.path k t ps)) _ _ (by show (if _ then _ else _)=_; rw [if_pos ⟨hfe,hp⟩,et]; rfl) (((s1.trans s2).trans s3).trans s9) ⟨p9,v,p,rfl,aAd,((fv.tk s2.tk).tk s3.tk).tk s9.tk,s9 _ _ gp⟩
  ·rw [decide_eq_false hb]
   refine ⟨_,l,k.nm::r,rfl,hl,hw,fun hb=>(by cases hb),fun _ H' s'=>q2 ?_ H' s'⟩
   cases r with
   | nil=>rfl
   | cons z ps =>
    refine if_neg fun c=>hb ?_
    have:=c.1
    rw [List.length_cons] at hml
    omega
set_option maxHeartbeats 0 in
theorem aRd (T:Bl mg) (d:Df K mg "put_in" aJu ["words","counts"] ) (W:XmS mg xt x0 x1 x4 x5 x10) (R_NoText:XrS K xt x0 x1 x4 x5 x10 x5 5) (o_posts_in:aC0 P w K mg base k "posts_in" ["words","told"] [] (aDx K x5)) (o_refuse_unless:aC0 P w K mg base k "refuse_unless" ["holds","words"] [] (aD9 x5)) (o_is_part:Okf P w K mg base k "is_part" ["text"] aN1):aC0 P w K mg base (k+1) "put_in" ["words","counts"] [] (aK4 K x5):=by
 refine aC0.of d aQo (fun vs H Q E h=>?_) (fun f cdv A outer s H vs Q E hr h=>?_)
 ·obtain ⟨l,d,f',n,r,rfl,_⟩:=h
  rfl
 ·obtain ⟨l,d,f',n,r,rfl,hl,hw,hd,q1,q2⟩:=h
  refine ⟨_,(@aAe _ _ _ _ _ (@aBh _ _ _ _ (@aA9 _ _ _ _ _ _ _ _ _ _ _ _ o_refuse_unless hr rfl aDd (@aAa _ _ _ _ _ (@aEg _ _ _ _ _ _ _ (@aB3 _ _ _ _ _ _ _ _ aTr (@aAk _ _ _ _ _ _ _ _ _ aBo rfl T.z_len aAz (@aAa _ _ _ _ _ (pv 0) (@aAc _) (by rfl)) (by decide) (by decide) (by rfl) (by rfl)) (@aAb _ _ _ _) (aAo _)) (@aEg _ _ _ _ _ _ _ (@aU9 _ _ _ _ _ _ (@aVa _ _ _ _ _ hr.u1 (@aAr _ _ _ _ _ _ _ aAt (pv 0) (@aAb _ _ _ _) (fun _ _=>rfl)) (pv 1)) (by first | exact nobehind _ (by decide) (by decide) | rfl)) (@aFl _ _ _ _ _ (@aAn _ _ _ _ _ _ _ _ _ _ o_is_part hr rfl (@aAa _ _ _ _ _ (@aAr _ _ _ _ _ _ _ aAt (pv 0) (@aAb _ _ _ _) (fun _ _=>rfl)) (@aAc _) (by rfl)) (by decide) (by rfl) (by rfl))))) (@aAa _ _ _ _ _ (pv 0) (@aAc _) (by rfl)) (by rfl)) (by decide) (by rfl) (by rfl)) (by rfl)) (@aAe _ _ _ _ _ (@aBh _ _ _ _ (@aA9 _ _ _ _ _ _ _ _ _ _ _ _ o_refuse_unless hr rfl aDd (@aAa _ _ _ _ _ (@aB3 _ _ _ _ _ _ _ _ (aA0 hr.units) (@aAj _ _ _ _ _ _ _ _ aI8 (@aAk _ _ _ _ _ _ _ _ _ aBo rfl T.z_len aAz (@aAa _ _ _ _ _ (pv 0) (@aAc _) (by rfl)) (by decide) (by decide) (by rfl) (by rfl)) (@aAb _ _ _ _)) (@aB2 _ _ _ _ _ _ hr.u1 (pv 1) (@aAr _ _ _ _ _ _ _ aAt (pv 0) (@aAb _ _ _ _) (fun _ _=>rfl)) (fun _ _=>rfl)) (aAo _)) (@aAa _ _ _ _ _ (pv 0) (@aAc _) (by rfl)) (by rfl)) (by decide) (by rfl) (by rfl)) (by rfl)) (@aAf _ _ _ (@aAq _ _ _ _ (@aBy _ _ _ _ _ (@aAa _ _ _ _ _ (@aAi _ _ _ _) (@aAa _ _ _ _ _ (@aAr _ _ _ _ _ _ _ aAt (pv 0) (@aAb _ _ _ _) (fun _ _=>rfl)) (@aAa _ _ _ _ _ (@aAr _ _ _ _ _ _ _ aAt (pv 0) (@aAb _ _ _ _) (fun _ _=>rfl)) (@aAa _ _ _ _ _ (@aA9 _ _ _ _ _ _ _ _ _ _ _ _ o_posts_in hr rfl aDd (@aAa _ _ _ _ _ (pv 0) (@aAa _ _ _ _ _ (@aAy _ _ _ _ _ _ _ _ _ _ aBv (pv 0) (@aBb _ _ _ (@aAb _ _ _ _)) (@aBi _)) (@aAc _) (by rfl)) (by rfl)) (by decide) (by rfl) (by rfl)) (@aAc _) (by rfl)) (by rfl)) (by rfl)) (by rfl))))))),?_⟩
  have hml:(List.map V.str (("put":Str)::r)).length=r.length+1:=by rw [List.length_map,List.length_cons]
  obtain ⟨kd,hk,_,hv⟩:=id hd
  by_cases h2:r.length < 2
  ·have en:aU3 f' r=none:=by
    match r,h2 with
    | [],_=>rfl
    | [_],_=>rfl
    | _::_::r,h=>exact absurd h (by simp)
   walk_at "go"
   exact ⟨_,l,"put"::r,rfl,hl,hw,fun hb=>(by cases hb),fun hb H' s'=>q2 en H' s'⟩
  obtain ⟨nm,cl,as,rfl⟩:∃ nm cl as,r=nm::cl::as:=by
   match r,h2 with
   | [],h=>exact absurd (Nat.zero_lt_succ 1) h
   | [_],h=>exact absurd (Nat.lt_succ_self 1) h
   | nm::cl::as,_=>exact ⟨nm,cl,as,rfl⟩
  have hwt:=hw
  rw [aBd,aBd,aBd] at hwt
  have hm2:(List.map V.str (("put":Str)::nm::cl::as)).length=as.length+3:=by rw [List.length_map,List.length_cons,List.length_cons,List.length_cons]
  have a1:atI (List.map V.str (("put":Str)::nm::cl::as)) 1=some (.str nm):=show atI _ ((1:Nat):Int)=_ from aA7 rfl
  have a2:atI (List.map V.str (("put":Str)::nm::cl::as)) 2=some (.str cl):=show atI _ ((2:Nat):Int)=_ from aA7 rfl
  walk_at "go"
  refine aBa hl a1 ?_
  walk_at "go"
  refine aZ6 (.inl hk) ?_
  cases hf:f' nm with
  | none =>
   have hvc:aDc kd (Sum.inr nm)=none:=by rw [hv nm,hf]; rfl
   rw [hvc]
   walk_at "go"
   exact ⟨_,l,"put"::nm::cl::as,rfl,hl,hw,fun hb=>(by cases hb),fun hb H' s'=>q2 (if_neg fun z=>by rw [hf] at z; cases z.1) H' s'⟩
  | some c =>
   have hvc:aDc kd (Sum.inr nm)=some (.int (c:Int)):=by rw [hv nm,hf]; rfl
   rw [hvc]
   walk_at "go"
   refine aBa hl a2 ?_
   walk_at "go"
   refine ⟨cl,rfl,by omega,fun H1 s1=>?_⟩
   have hl1:=s1 _ _ hl
   walk_at "go"
   refine ⟨_,l,"put"::nm::cl::as,rfl,hl1,hw,fun hp=>?_,fun hp H' s'=>q2 (if_neg fun z=>by rw [hp] at z; cases z.2.1) H' (s1.trans s')⟩
   walk_at "go"
   refine aBa hl1 a1 ?_
   walk_at "go"
   refine aDl (.inl (s1 _ _ hk)) hvc ?_
   walk_at "go"
   refine ⟨_,l,"put"::nm::cl::as,rfl,hl1,hw,fun hc=>?_,fun hc H' s'=>q2 (if_neg fun z=>?_) H' (s1.trans s')⟩
   rotate_left
   ·have ec:c=as.length:=by
     have:=z.1
     rw [hf] at this
     exact Option.some.inj this
    exact of_decide_eq_false hc (by omega)
   have ec:c=as.length:=by
    have:=of_decide_eq_true hc
    omega
   subst ec
   walk_at "go"
   refine aBa hl1 a1 ?_
   walk_at "go"
   refine aBa hl1 a2 ?_
   walk_at "go"
   refine aEb hl1 fun l2 hl2=>?_
   rw [show aDs (List.map V.str (("put":Str)::nm::cl::as)) (some 3) none=as.map V.str from aCw (xs:=List.map V.str (("put":Str)::nm::cl::as)) 3 (by omega)]
   have s2:=aAm.new (o:=.lst (as.map V.str)) hl2
   have g2:=aAd (H:=H1) (a:=l2) (o:=.lst (as.map V.str))
   generalize L2.upd H1 l2 (.lst (as.map V.str))=H2 at s2 g2 ⊢
   walk_at "go"
   refine ⟨l,"put"::nm::cl::as,l2,as,rfl,s2 _ _ hl1,hw,g2,by omega,fun ha p H3 s3 gp=>?_,fun ha H3 s3=>q2 (if_neg fun z=>by rw [ha] at z; cases z.2.2) H3 ((s1.trans s2).trans s3)⟩
   walk_at "go"
   refine aBr fun p9 hp9=>?_
   walk_at "go"
   have s9:=aAm.new (o:=.tup [.str "put",.str nm,.str cl,.ref p]) hp9
   exact q1 (.put nm cl as) _ _ (if_pos ⟨hf,hp,ha⟩) (((s1.trans s2).trans s3).trans s9) ⟨p9,p,rfl,aAd,s9 _ _ gp⟩
set_option maxHeartbeats 0 in
theorem aHz (T:Bl mg) (d:Df K mg "plain_row_in" aDi ["words","counts"] ) (W:XmS mg xt x0 x1 x4 x5 x10) (R_NoText:XrS K xt x0 x1 x4 x5 x10 x5 5) {ad_FEWEST_POSTS:Addr} (gd_FEWEST_POSTS:mg "FEWEST_POSTS"=some (.ref ad_FEWEST_POSTS)) (kd_FEWEST_POSTS:aVp P w K ad_FEWEST_POSTS [(Sum.inr "row",.int 2),(Sum.inr "star",.int 2),(Sum.inr "ring",.int 3)]) (o_put_in:aC0 P w K mg base k "put_in" ["words","counts"] [] (aK4 K x5)) (o_refuse_unless:aC0 P w K mg base k "refuse_unless" ["holds","words"] [] (aD9 x5)) (o_posts_row_in:aC0 P w K mg base k "posts_row_in" ["words"] [] (aGg K x5)) (o_run_in:aC0 P w K mg base k "run_in" ["words"] [] (aK1 K x5)):aC0 P w K mg base (k+1) "plain_row_in" ["words","counts"] [] (aHc K x5):=by
 refine aC0.of d aHi (fun vs H Q E h=>?_) (fun f cdv A outer s H vs Q E hr h=>?_)
 ·obtain ⟨l,d,f',n,ws,rfl,_⟩:=h
  rfl
 ·obtain ⟨l,d,f',n,ws,rfl,hne,hl,hw,hd,q1,q2⟩:=h
  refine ⟨_,(@aAe _ _ _ _ _ (@aA6 _ _ _ _ _ _ _ _ (@aAl _ _ _ _ _ _ _ _ (aA0 hr.units) (@aAr _ _ _ _ _ _ _ aAt (pv 0) (@aAb _ _ _ _) (fun _ _=>rfl)) (@aAi _ _ _ _) (aAo _)) (@aAf _ _ _ (@aAq _ _ _ _ (@aA9 _ _ _ _ _ _ _ _ _ _ _ _ o_run_in hr rfl aDd (@aAa _ _ _ _ _ (pv 0) (@aAc _) (by rfl)) (by decide) (by rfl) (by rfl)))) (@aAu _)) (@aAe _ _ _ _ _ (@aA6 _ _ _ _ _ _ _ _ (@aU4 _ _ _ _ _ _ (@bA4 _ _ _ _ _ _ _ rfl gd_FEWEST_POSTS kd_FEWEST_POSTS (@aAr _ _ _ _ _ _ _ aAt (pv 0) (@aAb _ _ _ _) (fun _ _=>rfl)) (by decide)) (by first | exact nobehind _ (by decide) (by decide) | rfl)) (@aAf _ _ _ (@aAq _ _ _ _ (@aA9 _ _ _ _ _ _ _ _ _ _ _ _ o_posts_row_in hr rfl aDd (@aAa _ _ _ _ _ (pv 0) (@aAc _) (by rfl)) (by decide) (by rfl) (by rfl)))) (@aAu _)) (@aAe _ _ _ _ _ (@aBh _ _ _ _ (@aA9 _ _ _ _ _ _ _ _ _ _ _ _ o_refuse_unless hr rfl aDd (@aAa _ _ _ _ _ (@aB3 _ _ _ _ _ _ _ _ (aA0 hr.units) (@aAr _ _ _ _ _ _ _ aAt (pv 0) (@aAb _ _ _ _) (fun _ _=>rfl)) (@aAi _ _ _ _) (aAo _)) (@aAa _ _ _ _ _ (pv 0) (@aAc _) (by rfl)) (by rfl)) (by decide) (by rfl) (by rfl)) (by rfl)) (@aAf _ _ _ (@aAq _ _ _ _ (@aA9 _ _ _ _ _ _ _ _ _ _ _ _ o_put_in hr rfl aDd (@aAa _ _ _ _ _ (pv 0) (@aAa _ _ _ _ _ (pv 1) (@aAc _) (by rfl)) (by rfl)) (by decide) (by rfl) (by rfl))))))),?_⟩
  obtain ⟨k,r,rfl⟩:∃ k r,ws=k::r:=by
   cases ws with
   | nil=>exact absurd rfl hne
   | cons k r=>exact ⟨k,r,rfl⟩
  have a0:atI (List.map V.str (k::r)) 0=some (.str k):=show atI _ ((0:Nat):Int)=_ from aA7 rfl
  rw [aCg] at q2
  have q1':∀ t v H',(if k="run" then aTb r else match aFr k with | some kd=>aM1 kd r | none=>if k="put" then aU3 f' r else none)=some t->aAm H H'->aBp H' v t->Q v H':=fun t v H' e=>q1 t v H' ((aCg f' k r).trans e)
  walk_at "go"
  refine aBa hl a0 ?_
  walk_at "go"
  by_cases e1:k="run"
  ·subst e1
   rw [if_pos rfl] at q2
   walk_at "go"
   exact ⟨l,r,rfl,hl,hw,fun t v H' e=>q1' t v H' (by rw [if_pos rfl]; exact e),q2⟩
  rw [if_neg e1] at q2
  rw [if_neg (show ¬ (k==Str.ofString "run")=true by simpa using e1)]
  walk_at "go"
  refine aBa hl a0 ?_
  cases hk:aFr k with
  | some kd =>
   rw [hk] at q2
   have ek:=aRt hk
   refine aZn (b:=true) (by show (aDc fpK _).isSome=_; rw [aR3,hk]; rfl) ?_
   walk_at "go"
   subst ek
   exact ⟨l,kd,r,rfl,hl,hw,fun t v H' e=>q1' t v H' (by rw [if_neg e1,hk]; exact e),q2⟩
  | none =>
   rw [hk] at q2
   refine aZn (b:=false) (by show (aDc fpK _).isSome=_; rw [aR3,hk]; rfl) ?_
   walk_at "go"
   refine aBa hl a0 ?_
   walk_at "go"
   refine ⟨_,l,k::r,rfl,hl,hw,fun hb=>?_,fun hb H' s'=>q2 (if_neg fun z=>by rw [z] at hb; exact absurd hb (by decide +kernel)) H' s'⟩
   have e2:k="put":=by simpa using hb
   subst e2
   rw [if_pos rfl] at q2
   walk_at "go"
   exact ⟨l,d,f',n,r,rfl,hl,hw,hd,fun t v H' e=>q1' t v H' (by rw [if_neg e1,hk,if_pos rfl]; exact e),q2⟩
set_option maxHeartbeats 0 in
theorem aM4 (T:Bl mg) (d:Df K mg "piece_in" aDp ["lines","counts"] ) (W:XmS mg xt x0 x1 x4 x5 x10) (R_NoText:XrS K xt x0 x1 x4 x5 x10 x5 5) {tk_MOST_PARAMS:Tok} (g_MOST_PARAMS:mg "MOST_PARAMS"=some (.int 8 tk_MOST_PARAMS)) (o_plain_row_in:aC0 P w K mg base k "plain_row_in" ["words","counts"] [] (aHc K x5)) (o_refuse_unless:aC0 P w K mg base k "refuse_unless" ["holds","words"] [] (aD9 x5)) (o_is_part:Okf P w K mg base k "is_part" ["text"] aN1):aC0 P w K mg base (k+1) "piece_in" ["lines","counts"] [] (aK6 K x5):=by
 refine aC0.of d aE1 (fun vs H Q E h=>?_) (fun f cdv A outer s H vs Q E hr h=>?_)
 ·obtain ⟨l,d,f',n,r,inner,rfl,_⟩:=h
  rfl
 ·obtain ⟨l,d,f',n,r,inner,rfl,hl,hn,hw,hne,hd,q1,q2⟩:=h
  refine ⟨_,(@aAe _ _ _ _ _ (@aAp _ _ (i:=2) _ _ _ _ aE1.nd rfl (by first | exact Or.inl rfl | exact Or.inr rfl) (@aAr _ _ _ _ _ _ _ aAt (pv 0) (@aAb _ _ _ _) (fun _ _=>rfl)) (by rfl) (by first | exact .inl rfl | exact .inr rfl | assumption)) (@aAe _ _ _ _ _ (@aAp _ _ (i:=3) _ _ _ _ aE1.nd rfl (by first | exact Or.inl rfl | exact Or.inr rfl) (@aAy _ _ _ _ _ _ _ _ _ _ aBv (pv 2) (@aBb _ _ _ (@aAb _ _ _ _)) (@aBi _)) (by rfl) (by first | exact .inl rfl | exact .inr rfl | assumption)) (@aAe _ _ _ _ _ (@aBh _ _ _ _ (@aA9 _ _ _ _ _ _ _ _ _ _ _ _ o_refuse_unless hr rfl aDd (@aAa _ _ _ _ _ (@aEg _ _ _ _ _ _ _ (@aG5 _ _ _ _ _ _ _ _ _ _ _ _ aF6 aF6 (@aAb _ _ _ _) (@aAk _ _ _ _ _ _ _ _ _ aBo rfl T.z_len aAz (@aAa _ _ _ _ _ (pv 3) (@aAc _) (by rfl)) (by decide) (by decide) (by rfl) (by rfl)) (@aCe _ _ (v:=(.int 8)) _ _ rfl g_MOST_PARAMS ⟨_,rfl⟩ (by decide)) (by with_unfolding_all rfl)) (@aFl _ _ _ _ _ (@aAk _ _ _ _ _ _ _ _ _ (aJe rfl) rfl T.z_all aJg (@aAa _ _ _ _ _ (@aC8 _ _ _ _ _ _ _ _ _ _ _ _ _ _ (@aB7 _ _ (sc:=aAh aDp) (N:=["lines","counts","words","params"]) (tn:=["word"]) (names:=[]) (is:=[]) rfl rfl (by decide +kernel) (by decide +kernel) rfl (by decide +kernel) rfl (by decide +kernel) (by decide +kernel) (by decide +kernel)) rfl (@aCb _ _ _ _ (@aAy _ _ _ _ _ _ _ _ _ _ aBv (pv 2) (@aBb _ _ _ (@aAb _ _ _ _)) (@aBi _))) (fun _ _ _ _=>(@aAx _ _ (i:=0) _ (show (["word"]:List Str).Nodup by decide +kernel) rfl (Or.inl rfl) (Or.inr rfl))) (fun _ _ _ _=>(@aAn _ _ _ _ _ _ _ _ _ _ o_is_part hr rfl (@aAa _ _ _ _ _ (pv 0) (@aAc _) (by rfl)) (by decide) (by rfl) (by rfl))) (fun _ _ _ _=>(@aB9 _)) (by intro _; rfl)) (@aAc _) (by rfl)) (by decide) (by decide) (by rfl) (by rfl)))) (@aAa _ _ _ _ _ (pv 2) (@aAc _) (by rfl)) (by rfl)) (by decide) (by rfl) (by rfl)) (by rfl)) (@aAe _ _ _ _ _ (@aBh _ _ _ _ (@aA9 _ _ _ _ _ _ _ _ _ _ _ _ o_refuse_unless hr rfl aDd (@aAa _ _ _ _ _ (@aEg _ _ _ _ _ _ _ (@aB3 _ _ _ _ _ _ _ _ (aA0 hr.units) (@aAk _ _ _ _ _ _ _ _ _ aVi rfl T.z_len aAz (@aAa _ _ _ _ _ (@aA8 _ _ _ _ _ _ _ _ _ (aMa rfl) rfl T.z_set aVj (@aAa _ _ _ _ _ (pv 3) (@aAc _) (by rfl)) (by decide) (by decide) (by rfl) (by rfl)) (@aAc _) (by rfl)) (by decide) (by decide) (by rfl) (by rfl)) (@aAk _ _ _ _ _ _ _ _ _ aBo rfl T.z_len aAz (@aAa _ _ _ _ _ (pv 3) (@aAc _) (by rfl)) (by decide) (by decide) (by rfl) (by rfl)) (aAo _)) (@aFl _ _ _ _ _ (@aU9 _ _ _ _ _ _ (@aQ5 _ _ _ _ _ hr.u1 (@aAr _ _ _ _ _ _ _ aAt (pv 2) (@aAb _ _ _ _) (fun _ _=>rfl)) (pv 1)) (by first | exact nobehind _ (by decide) (by decide) | rfl)))) (@aAa _ _ _ _ _ (pv 2) (@aAc _) (by rfl)) (by rfl)) (by decide) (by rfl) (by rfl)) (by rfl)) (@aAe _ _ _ _ _ (@aBh _ _ _ _ (@aA9 _ _ _ _ _ _ _ _ _ _ _ _ o_refuse_unless hr rfl aDd (@aAa _ _ _ _ _ (@aB3 _ _ _ _ _ _ _ _ aJ8 (@aAk _ _ _ _ _ _ _ _ _ aBo rfl T.z_len aAz (@aAa _ _ _ _ _ (pv 0) (@aAc _) (by rfl)) (by decide) (by decide) (by rfl) (by rfl)) (@aAb _ _ _ _) (aAo _)) (@aAa _ _ _ _ _ (pv 2) (@aAc _) (by rfl)) (by rfl)) (by decide) (by rfl) (by rfl)) (by rfl)) (@aAf _ _ _ (@aAq _ _ _ _ (@aBy _ _ _ _ _ (@aAa _ _ _ _ _ (@aAi _ _ _ _) (@aAa _ _ _ _ _ (@aAr _ _ _ _ _ _ _ aAt (pv 2) (@aAb _ _ _ _) (fun _ _=>rfl)) (@aAa _ _ _ _ _ (@aA8 _ _ _ _ _ _ _ _ _ aBe rfl T.z_tuple aCo (@aAa _ _ _ _ _ (pv 3) (@aAc _) (by rfl)) (by decide) (by decide) (by rfl) (by rfl)) (@aAa _ _ _ _ _ (@aA8 _ _ _ _ _ _ _ _ _ aBe rfl T.z_tuple aCo (@aAa _ _ _ _ _ (@aTp _ _ _ _ _ _ _ _ _ _ _ _ _ _ _ aXd rfl rfl rfl (@aB7 _ _ (sc:=aAh aDp) (N:=["lines","counts","words","params"]) (tn:=["line"]) (names:=["counts"]) (is:=[1]) rfl rfl (by decide +kernel) (by decide +kernel) rfl (by decide +kernel) rfl (by decide +kernel) (by decide +kernel) (by decide +kernel)) rfl (@aCb _ _ _ _ (@aAy _ _ _ _ _ _ _ _ _ _ aBv (pv 0) (@aBb _ _ _ (@aAb _ _ _ _)) (@aBi _))) (fun _ _ _ _=>(@aAx _ _ (i:=0) _ (show (["line","counts"]:List Str).Nodup by decide +kernel) rfl (Or.inl rfl) (Or.inr rfl))) (fun _ _ _ _=>(@aA9 _ _ _ _ _ _ _ _ _ _ _ _ o_plain_row_in hr rfl passC (@aAa _ _ _ _ _ (pv 0) (@aAa _ _ _ _ _ (pv 1) (@aAc _) (by rfl)) (by rfl)) (by decide) (by rfl) (by rfl))) (fun _ _ _ _=>(@aB9 _)) (by intro _; rfl)) (@aAc _) (by rfl)) (by decide) (by decide) (by rfl) (by rfl)) (@aAc _) (by rfl)) (by rfl)) (by rfl)) (by rfl)))))))))),?_⟩
  obtain ⟨vs,hvs,pv⟩:=hl
  obtain ⟨v0,vr,rfl,⟨a0,rfl,ha0⟩,pr⟩:∃ v0 vr,vs=v0::vr/\LnQ H v0 ("piece"::r)/\Paired (LnQ H) vr inner:=by
   cases pv with
   | cons h t=>exact ⟨_,_,rfl,h,t⟩
  have hrl:=Paired.length pr
  have hwh:=hw ("piece"::r) (by simp)
  have hwr:=hwh
  rw [aBd] at hwr
  have hwl:=aG8 r
  have ep:aI7 f' (("piece"::r)::inner)=match aCh f' ("piece"::r) with
    | none=>none
    | some p=>if inner=[] then none else (aIl f' inner).map fun rs=>(p.1,p.2,rs):=rfl
  have i0:atI (V.ref a0::vr) 0=some (.ref a0):=show atI _ ((0:Nat):Int)=_ from aA7 rfl
  obtain ⟨kd,hk,hkl,hkv⟩:=id hd
  have hml:(List.map V.str (("piece":Str)::r)).length=r.length+1:=by rw [List.length_map,List.length_cons]
  have bad:aCh f' ("piece"::r)=none->∀ H',aAm H H'->E (.ref x5) none H':=fun e=>q2 (by rw [ep,e])
  walk_at "go"
  refine aBa hvs i0 ?_
  walk_at "go"
  refine aEb ha0 fun l1 hl1=>?_
  cases r with
  | nil =>
   have s1:=aAm.new (o:=.lst (aDs (List.map V.str [("piece":Str)]) (some 2) none)) hl1
   have g1:=aAd (H:=H) (a:=l1) (o:=.lst (aDs (List.map V.str [("piece":Str)]) (some 2) none))
   generalize L2.upd H l1 (.lst (aDs (List.map V.str [("piece":Str)]) (some 2) none))=H1 at s1 g1 ⊢
   have hpl:(aDs (List.map V.str [("piece":Str)]) (some 2) none).length=0:=rfl
   generalize aDs (List.map V.str [("piece":Str)]) (some 2) none=cv at g1 hpl
   walk_at "go"
   exact ⟨_,a0,["piece"],rfl,s1 _ _ ha0,hwh,fun hb=>(by cases hb),fun _ H' s'=>bad rfl H' (s1.trans s')⟩
  | cons nm ps =>
  rw [show aDs (List.map V.str (("piece":Str)::nm::ps)) (some 2) none=ps.map V.str from aCw (xs:=List.map V.str (("piece":Str)::nm::ps)) 2 (by rw [hml,List.length_cons]; omega)]
  have s1:=aAm.new (o:=.lst (ps.map V.str)) hl1
  have g1:=aAd (H:=H) (a:=l1) (o:=.lst (ps.map V.str))
  generalize L2.upd H l1 (.lst (ps.map V.str))=H1 at s1 g1 ⊢
  have ha1:=s1 _ _ ha0
  have hpl:(ps.map V.str).length=ps.length:=List.length_map _
  have eb:aCh f' ("piece"::nm::ps)=if ("piece":Str)="piece"/\(1<=ps.length/\ps.length<=8)/\(nm::ps).all aA3=true/\ps.Nodup/\f' nm=none then some (nm,ps) else none:=rfl
  have i1:atI (List.map V.str (("piece":Str)::nm::ps)) 1=some (.str nm):=show atI _ ((1:Nat):Int)=_ from aA7 rfl
  by_cases c1:1<=ps.length
  rotate_left
  ·walk_at "go"
   exact ⟨_,a0,"piece"::nm::ps,rfl,ha1,hwh,fun hb=>(by cases hb),fun _ H' s'=>bad (by rw [eb,if_neg fun z=>c1 z.2.1.1]) H' (s1.trans s')⟩
  by_cases c2:ps.length<=8
  rotate_left
  ·walk_at "go"
   exact ⟨_,a0,"piece"::nm::ps,rfl,ha1,hwh,fun hb=>(by cases hb),fun _ H' s'=>bad (by rw [eb,if_neg fun z=>c2 z.2.1.2]) H' (s1.trans s')⟩
  walk_at "go"
  refine aEb ha1 fun l2 hl2=>?_
  rw [show aDs (List.map V.str (("piece":Str)::nm::ps)) (some 1) none=(nm::ps).map V.str from aCw (xs:=List.map V.str (("piece":Str)::nm::ps)) 1 (by omega)]
  have s2:=aAm.new (o:=.lst ((nm::ps).map V.str)) hl2
  have g2:=aAd (H:=H1) (a:=l2) (o:=.lst ((nm::ps).map V.str))
  generalize L2.upd H1 l2 (.lst ((nm::ps).map V.str))=H2 at s2 g2 ⊢
  have hcl:((nm::ps).map V.str).length=ps.length+1:=by rw [List.length_map,List.length_cons]
  refine aCa (SqL.of g2) ?_
  refine aJ2 (xs:=(nm::ps).map V.str) (by omega) (fun acc i ys G=>Kp acc H2 G/\ys=(((nm::ps).take i).map aA3).map V.bl) (fun acc h0=>⟨Kp.new h0,rfl⟩) ?_ ?_ ?_
  ·intro acc i ys G h0 _ ⟨kp,_⟩
   exact SqL.of (kp _ _ (aAg g2 h0) g2)
  ·intro acc i ys G y h0 hy hyl hG ⟨kp,e⟩
   rw [List.getElem?_map] at hy
   cases hz:(nm::ps)[i]? with
   | none=>rw [hz] at hy; cases hy
   | some z =>
    rw [hz] at hy
    cases (Option.some.inj hy:V.str z=y)
    walk_at "go"
    refine ⟨z,rfl,by have:=aIs (List.mem_of_getElem? hz); omega,fun G1 t1=>?_⟩
    have hi:i < (nm::ps).length:=(List.getElem?_eq_some_iff.mp hz).1
    refine aDu (by rw [List.length_map]; exact hi) hyl (t1 _ _ hG) ⟨Kp.trans (Kp.trans kp t1.kp) Kp.upd,?_⟩
    rw [aCr hz,List.map_append,List.map_append,← e]
    rfl
  intro acc ys G h0 hG hyl ⟨kp,e⟩
  rw [List.length_map,List.take_length] at e
  subst e
  have sG:aAm H2 G:=fun b o h=>kp _ _ (aAg h h0) h
  have s3:=(s1.trans s2).trans sG
  walk_at "go"
  refine aI5 hG ?_
  rw [show ((nm::ps).map aA3).all id=(nm::ps).all aA3 by rw [List.all_map]; rfl]
  have g1G:=sG _ _ (s2 _ _ g1)
  have ha3:=s3 _ _ ha0
  walk_at "go"
  refine ⟨_,a0,"piece"::nm::ps,rfl,ha3,hwh,fun c3=>?_,fun c3 H' s'=>bad (by rw [eb,if_neg fun z=>by rw [c3] at z; cases z.2.2.1]) H' (s3.trans s')⟩
  walk_at "go"
  refine aUw g1G (by omega) fun l5 ys5 G5 hl5 s5 g5 nd5 mem5=>?_
  walk_at "go"
  refine ⟨l5,ys5,rfl,g5,?_⟩
  have s35:=s3.trans s5
  have g15:=s5 _ _ g1G
  have ha5:=s35 _ _ ha0
  have hk5:=s35 _ _ hk
  by_cases c4:ps.Nodup
  rotate_left
  ·have ne5:¬ ys5.length=ps.length:=fun e=>c4 (aH0 nd5 (fun z hz=>(mem5 z).mp hz) (by omega))
   walk_at "go"
   exact ⟨_,a0,"piece"::nm::ps,rfl,ha5,hwh,fun hb=>(by cases hb),fun _ H' s'=>bad (by rw [eb,if_neg fun z=>c4 z.2.2.2.1]) H' (s35.trans s')⟩
  have e5:=aRk nd5 c4 mem5
  walk_at "go"
  refine aBa ha5 i1 ?_
  walk_at "go"
  refine r_dNs (.inl hk5) ?_
  cases c5:f' nm with
  | some c =>
   have hvc:aDc kd (Sum.inr nm)=some (.int (c:Int)):=by rw [hkv nm,c5]; rfl
   rw [hvc]
   walk_at "go"
   exact ⟨_,a0,"piece"::nm::ps,rfl,ha5,hwh,fun hb=>(by cases hb),fun _ H' s'=>bad (by rw [eb,if_neg fun z=>by rw [c5] at z; cases z.2.2.2.2]) H' (s35.trans s')⟩
  | none =>
  have hvc:aDc kd (Sum.inr nm)=none:=by rw [hkv nm,c5]; rfl
  rw [hvc]
  have ebs:aCh f' ("piece"::nm::ps)=some (nm,ps):=by rw [eb,if_pos ⟨rfl,⟨c1,c2⟩,c3,c4,c5⟩]
  walk_at "go"
  refine ⟨_,a0,"piece"::nm::ps,rfl,ha5,hwh,fun _=>?_,fun hb=>(by cases hb)⟩
  have hvs5:=s35 _ _ hvs
  have hvl:(V.ref a0::vr).length=inner.length+1:=by rw [List.length_cons,hrl]
  walk_at "go"
  refine ⟨_,a0,"piece"::nm::ps,rfl,ha5,hwh,fun c6=>?_,fun c6 H' s'=>q2 ?_ H' (s35.trans s')⟩
  rotate_left
  ·rw [ep,ebs]
   refine if_pos (List.eq_nil_of_length_eq_zero ?_)
   have:=of_decide_eq_false c6
   omega
  have hin:inner≠[]:=fun e=>by
   have:=of_decide_eq_true c6
   rw [e] at hvl
   simp at hvl
   simp [hvl] at this
  have ep2:aI7 f' (("piece"::nm::ps)::inner)=(aIl f' inner).map fun rs=>(nm,ps,rs):=by
   rw [ep,ebs]
   exact if_neg hin
  walk_at "go"
  refine aBa ha5 i1 ?_
  walk_at "go"
  refine ⟨l1,_,rfl,.inl ⟨SqL.of g15,fun qa hqa=>?_⟩⟩
  have s6:=aAm.new (o:=.tup (ps.map V.str)) hqa
  have g6:=aAd (H:=G5) (a:=qa) (o:=.tup (ps.map V.str))
  generalize L2.upd G5 qa (.tup (ps.map V.str))=G6 at s6 g6 ⊢
  have hvs6:=s6 _ _ hvs5
  walk_at "go"
  refine aEb hvs6 fun l7 hl7=>?_
  rw [show aDs (V.ref a0::vr) (some 1) none=vr from aCw (xs:=V.ref a0::vr) 1 (by omega)]
  have s7:=aAm.new (o:=.lst vr) hl7
  have g7:=aAd (H:=G6) (a:=l7) (o:=.lst vr)
  generalize L2.upd G6 l7 (.lst vr)=G7 at s7 g7 ⊢
  have s37:=s35.trans (s6.trans s7)
  refine aCa (SqL.of g7) ?_
  refine aJ2 (xs:=vr) (by omega) (fun acc i ys G=>Kp acc G7 G/\∃ ts,aIl f' (inner.take i)=some ts/\Paired (aBp G) ys ts) (fun acc h0=>⟨Kp.new h0,[],rfl,.nil⟩) ?_ ?_ ?_
  ·rintro acc i ys G h0 _ ⟨kp,_⟩
   exact SqL.of (kp _ _ (aAg g7 h0) g7)
  ·rintro acc i ys G y h0 hy hyl hG ⟨kp,ts,hts,pt⟩
   obtain ⟨ws,hws,a,rfl,ha⟩:=Paired.at pr hy
   have sG7:aAm G7 G:=fun b o h=>kp _ _ (aAg h h0) h
   have sHG:=s37.trans sG7
   have hmem:=List.mem_of_getElem? hws
   walk_at "go"
   refine ⟨a,d,f',n,ws,rfl,hne ws hmem,sHG _ _ ha,hw ws (List.mem_cons_of_mem _ hmem),hd.sm sHG,fun t v G8 et s8 rq=>?_,fun en H' s'=>q2 (by rw [ep2,aLu en hmem]; rfl) H' (sHG.trans s')⟩
   have tk:=TK.lst (o:=.lst (ys++[v])) (s8 _ _ hG)
   refine aDu (by have:=(List.getElem?_eq_some_iff.mp hy).1; exact this) hyl (s8 _ _ hG) ⟨(kp.trans s8.kp).trans Kp.upd,ts++[t],?_,?_⟩
   ·rw [aCr hws]
    exact aLt et hts
   ·exact Pd.snoc (Pd.imp pt fun v b f=>(aBp.tk f s8.tk).tk tk) (rq.tk tk)
  rintro acc ys G h0 hG hyl ⟨kp,ts,hts,pt⟩
  rw [hrl,List.take_length] at hts
  have sG7:aAm G7 G:=fun b o h=>kp _ _ (aAg h h0) h
  have sHG:=s37.trans sG7
  walk_at "go"
  refine ⟨acc,_,rfl,.inl ⟨SqL.of hG,fun p8 hp8=>?_⟩⟩
  have s8:=aAm.new (o:=.tup ys) hp8
  have g8:=aAd (H:=G) (a:=p8) (o:=.tup ys)
  generalize L2.upd G p8 (.tup ys)=G8 at s8 g8 ⊢
  walk_at "go"
  refine aBr fun p9 hp9=>?_
  have s9:=aAm.new (o:=.tup [.str "piece",.str nm,.ref qa,.ref p8]) hp9
  walk_at "go"
  exact q1 (nm,ps,ts) _ _ (by rw [ep2,hts]; rfl) ((sHG.trans s8).trans s9) ⟨p9,qa,p8,ys,rfl,aAd,s9 _ _ (s8 _ _ (sG7 _ _ (s7 _ _ g6))),s9 _ _ g8,Pd.imp pt fun v b f=>(aBp.tk f s8.tk).tk s9.tk⟩
set_option maxHeartbeats 0 in
theorem aKa (T:Bl mg) (d:Df K mg "end_behind" aEc ["lines","place"] ) (W:XmS mg xt x0 x1 x4 x5 x10) (R_NoText:XrS K xt x0 x1 x4 x5 x10 x5 5):aC0 P w K mg base (k+1) "end_behind" ["lines","place"] [] (aN5 K x5):=by
 refine aC0.of d aFd (fun vs H Q E h=>?_) (fun f cdv A outer s H vs Q E hr h=>?_)
 ·obtain ⟨l,ls,a,rfl,_⟩:=h
  rfl
 ·obtain ⟨l,ls,a,rfl,hl,hn,ha,q1,q2⟩:=h
  refine ⟨_,(@aAe _ _ _ _ _ (@PS.nox _ _ _ (@aDq _ _ _ _ _ _ _ _ PassesOwn.never rfl (@aHv _ _ _ _ _ _ _ rfl T.z_range (@aAa _ _ _ _ _ (pv 1) (@aAa _ _ _ _ _ (@aAk _ _ _ _ _ _ _ _ _ aBo rfl T.z_len aAz (@aAa _ _ _ _ _ (pv 0) (@aAc _) (by rfl)) (by decide) (by decide) (by rfl) (by rfl)) (@aAc _) (by rfl)) (by rfl)) (by rfl) (by rfl)) (@aAx _ _ (i:=2) _ aFd.nd rfl (by first | exact Or.inl rfl | exact Or.inr rfl) (by first | exact .inl rfl | exact .inr rfl | assumption)) (@aAf _ _ _ (@aA6 _ _ _ _ _ _ _ _ (@aAl _ _ _ _ _ _ _ _ (aA0 hr.units) (@aAr _ _ _ _ _ _ _ aAt (pv 0) (pv 2) (fun _ _=>rfl)) (@aA4 _ _ _ _ (@aAa _ _ _ _ _ (@aAi _ _ _ _) (@aAc _) (by rfl))) (aAo _)) (@aAf _ _ _ (@aAq _ _ _ _ (pv 2))) (@aAu _))) (by intro _; rfl))) (@aAf _ _ _ (@aFk _ _ _ _ _ _ _ _ _ _ (fun _ _ _ _ _ _ _ _ I m q=>aNq I m q) rfl rfl W.m_NoText R_NoText.e (@aAa _ _ _ _ _ (@aAi _ _ _ _) (@aAc _) (by rfl)) (by decide) (by rfl) (by rfl)))),?_⟩
  obtain ⟨vs,hvs,pv⟩:=hl
  have hvl:=Paired.length pv
  walk_at "go"
  refine aMu (by omega) (by omega) (by omega) (by omega) ?_
  refine aGi (n:=((vs.length:Int) - (a:Int)).toNat) (fun i σ G=>∃ (o2:Option V),σ=[some (.ref l),some (.int (a:Int)),o2]/\aAm H G/\∀ j,a<=j->j < a+i->∀ ws,ls[j]?=some ws->ws≠[("end":Str)]) ⟨_,rfl,aAm.refl _,fun j h1 h2=>by omega⟩ ?_ ?_
  ·rintro i σ G hi ⟨o2,rfl,sG,hno⟩
   obtain ⟨ws,hws⟩:∃ ws,ls[a+i]?=some ws:=⟨_,List.getElem?_eq_getElem (by omega)⟩
   obtain ⟨v,hv⟩:∃ v,vs[a+i]?=some v:=⟨_,List.getElem?_eq_getElem (by omega)⟩
   obtain ⟨ws',hws',a1,rfl,ha1⟩:=Paired.at pv hv
   rw [hws] at hws'
   cases hws'
   walk_at "go"
   rw [show ((a:Int)+(i:Int))=((a+i:Nat):Int) by omega]
   refine aBa (sG _ _ hvs) (aA7 hv) ?_
   walk_at "go"
   refine aA2 fun l9 hl9=>?_
   have s9:=aAm.new (o:=.lst [V.str "end"]) hl9
   have g9:=aAd (H:=G) (a:=l9) (o:=.lst [V.str "end"])
   generalize L2.upd G l9 (.lst [V.str "end"])=G9 at s9 g9 ⊢
   refine aGl (xs:=ws) (ys:=[("end":Str)]) (s9 _ _ (sG _ _ ha1)) g9 ?_
   by_cases e:ws=[("end":Str)]
   ·rw [decide_eq_true e]
    walk_at "go"
    exact q1 _ _ (by omega) (by rw [hws,e]) hno (sG.trans s9)
   ·rw [decide_eq_false e]
    walk_at "go"
    refine ⟨_,rfl,sG.trans s9,fun j h1 h2 ws' h=>?_⟩
    by_cases ej:j=a+i
    ·subst ej
     rw [hws] at h
     cases h
     exact e
    ·exact hno j h1 (by omega) ws' h
  rintro σ G ⟨o2,rfl,sG,hno⟩
  walk_at "go"
  exact ⟨by rw [sizeLine_eq]; exact (by decide:1<=16777216),q2 (fun j h1 ws h=>hno j h1 (by have:=(List.getElem?_eq_some_iff.mp h).1; omega) ws h) _ sG⟩
set_option maxHeartbeats 0 in
theorem aM5 (T:Bl mg) (d:Df K mg "lines_in" aEt ["text"] ) (W:XmS mg xt x0 x1 x4 x5 x10) (R_NoText:XrS K xt x0 x1 x4 x5 x10 x5 5) {tk_MOST_ROWS:Tok} (g_MOST_ROWS:mg "MOST_ROWS"=some (.int 60 tk_MOST_ROWS)):aC0 P w K mg base (k+1) "lines_in" ["text"] [] (aHe K x5):=by
 refine aC0.of d aHl (fun vs H Q E h=>?_) (fun f cdv A outer s H vs Q E hr h=>?_)
 ·obtain ⟨x,rfl,_⟩:=h
  rfl
 ·obtain ⟨x,rfl,h⟩:=h
  refine ⟨_,(@aAe _ _ _ _ _ (@aA6 _ _ _ _ _ _ _ _ (@aC7 _ _ _ _ (@aCq _ _ _ (@aAk _ _ _ _ _ _ _ _ _ (aEm (T:="str")) rfl T.z_isinstance aBs (@aAa _ _ _ _ _ (pv 0) (@aAa _ _ _ _ _ (@aF5 _ _ (v:=.ty "str") _ _ rfl T.z_str aMb rfl (by decide) (by decide)) (@aAc _) (by rfl)) (by rfl)) (by decide) (by decide) (by rfl) (by rfl)) (by intro _; rfl))) (@aAf _ _ _ (@aFk _ _ _ _ _ _ _ _ _ _ (fun _ _ _ _ _ _ _ _ I m q=>aNq I m q) rfl rfl W.m_NoText R_NoText.e (@aAa _ _ _ _ _ (@aAi _ _ _ _) (@aAc _) (by rfl)) (by decide) (by rfl) (by rfl))) (@aAu _)) (@aAe _ _ _ _ _ (@aHt _ _ _ _ _ _ _ _ _ _ _ _ _ _ (i:=1) _ _ _ aHl.nd rfl (by first | exact Or.inl rfl | exact Or.inr rfl) (@aB7 _ _ (sc:=aAh aEt) (N:=["text","lines"]) (tn:=["line"]) (names:=[]) (is:=[]) rfl rfl (by decide +kernel) (by decide +kernel) rfl (by decide +kernel) rfl (by decide +kernel) (by decide +kernel) (by decide +kernel)) rfl (@aCb _ _ _ _ (@aB4 _ _ _ _ _ _ _ _ _ _ _ _ PySem.F.plainAttrs_str PySem.F.slot_str_split PySem.F.type_str_split aCu (pv 0) (@aAa _ _ _ _ _ (@aAi _ _ _ _) (@aAc _) (by rfl)) (by rfl) (by rfl) (by rfl) (by rfl) (by rfl))) (fun _ _ _ _=>(@aAx _ _ (i:=0) _ (show (["line"]:List Str).Nodup by decide +kernel) rfl (Or.inl rfl) (Or.inr rfl))) (fun _ _ _ _=>(@bA3 _ _ _ _ _ _ _ _ _ _ _ _ _ _ _ _ _ _ _ PySem.F.plainAttrs_str PySem.F.slot_str_split PySem.F.type_str_split aCu (pv 0) (@aAa _ _ _ _ _ (@aAi _ _ _ _) (@aAc _) (by rfl)) (by rfl) (by rfl) (by rfl) (by rfl) (by rfl))) (fun _ _ _ _=>(@aB9 _)) (by intro _; rfl) (by rfl) (by first | exact .inl rfl | exact .inr rfl | assumption)) (@aAe _ _ _ _ _ (@aA6 _ _ _ _ _ _ _ _ (@aAl _ _ _ _ _ _ _ _ aJ8 (@aAk _ _ _ _ _ _ _ _ _ aBo rfl T.z_len aAz (@aAa _ _ _ _ _ (pv 1) (@aAc _) (by rfl)) (by decide) (by decide) (by rfl) (by rfl)) (@aCe _ _ (v:=(.int 60)) _ _ rfl g_MOST_ROWS ⟨_,rfl⟩ (by decide)) (aAo _)) (@aAf _ _ _ (@aFk _ _ _ _ _ _ _ _ _ _ (fun _ _ _ _ _ _ _ _ I m q=>aNq I m q) rfl rfl W.m_NoText R_NoText.e (@aAa _ _ _ _ _ (@bA0 _ _ _ _ _ _ (@aHu _ _ _ _ _ (@aAi _ _ _ _) (@aHu _ _ _ _ _ (@bA1 _ _ _ _ (@aCe _ _ (v:=(.int 60)) _ _ rfl g_MOST_ROWS ⟨_,rfl⟩ (by decide))) (@aHu _ _ _ _ _ (@aAi _ _ _ _) (@aU5 _)))) (by decide)) (@aAc _) (by rfl)) (by decide) (by rfl) (by rfl))) (@aAu _)) (@aAf _ _ _ (@aAq _ _ _ _ (pv 1)))))),?_⟩
  rcases h with ⟨z,rfl,hz,q1,q2⟩ | ⟨⟨ty,hty,hno⟩,q⟩
  rotate_left
  ·walk_at "go"
   refine aFj hty hno ?_
   walk_at "go"
   exact ⟨by rw [sizeLine_eq]; exact (by decide:1<=16777216),q _ (aAm.refl _)⟩
  walk_at "go"
  refine aFj (.str _) aH4 ?_
  walk_at "go"
  refine aDk (z:=z) (y:=sp3) (by decide +kernel) (by omega) fun l1 hl1=>?_
  have hfew:=aIu z sp3
  have hsh:∀ p∈Txt.split z sp3,p.length<=z.length:=fun p hp=>aDw hp
  unfold aEj at q1 q2
  rw [List.length_map] at q1 q2
  generalize Txt.split z sp3=ls at hfew hsh q1 q2 ⊢
  have hml:(ls.map V.str).length=ls.length:=List.length_map _
  have s1:=aAm.new (o:=.lst (ls.map V.str)) hl1
  have g1:=aAd (H:=H) (a:=l1) (o:=.lst (ls.map V.str))
  generalize L2.upd H l1 (.lst (ls.map V.str))=H1 at s1 g1 ⊢
  refine aCa (SqL.of g1) ?_
  refine aJ1 (xs:=ls.map V.str) (by omega) (fun acc i ys G=>Kp acc H1 G/\Paired (LnQ G) ys ((ls.take i).map fun l=>Txt.split l sp1)/\∀ v∈ys,v≠.ref acc) (fun acc h0=>⟨Kp.new h0,.nil,fun _ h=>nomatch h⟩) ?_ ?_ ?_
  ·rintro acc i ys G h0 _ ⟨kp,_⟩
   exact SqL.of (kp _ _ (aAg g1 h0) g1)
  ·rintro acc i ys G y h0 hy hyl hG ⟨kp,pt,hna⟩
   rw [List.getElem?_map] at hy
   cases hr:ls[i]? with
   | none=>rw [hr] at hy; cases hy
   | some w1 =>
    rw [hr] at hy
    cases (Option.some.inj hy:V.str w1=y)
    have hw1:=hsh w1 (List.mem_of_getElem? hr)
    walk_at "go"
    refine aDk (z:=w1) (y:=sp1) (by decide +kernel) (by omega) fun l2 hl2=>?_
    have s2:=aAm.new (o:=.lst ((Txt.split w1 sp1).map V.str)) hl2
    have g2:=aAd (H:=G) (a:=l2) (o:=.lst ((Txt.split w1 sp1).map V.str))
    generalize L2.upd G l2 (.lst ((Txt.split w1 sp1).map V.str))=G2 at s2 g2 ⊢
    have n2:l2≠acc:=fun e=>by rw [e,hG] at hl2; cases hl2
    refine aDu (by have:=(List.getElem?_eq_some_iff.mp hr).1; omega) hyl (s2 _ _ hG) ⟨(kp.trans s2.kp).trans Kp.upd,?_,?_⟩
    ·rw [aCr hr,List.map_append]
     refine Pd.snoc (Pd.keep pt fun v b hv ⟨a,e,f⟩=>⟨a,e,?_⟩) ⟨l2,rfl,by rw [aBg n2]; exact g2⟩
     rw [aBg fun z=>hna v hv (by rw [e,z])]
     exact s2 _ _ f
    ·intro v hv
     rcases List.mem_append.mp hv with h | h
     ·exact hna v h
     ·rw [List.mem_singleton.mp h]
      exact fun z=>n2 (by cases z; rfl)
  rintro acc ys G h0 hG hyl ⟨kp,pt,hna⟩
  rw [hml,List.take_length] at pt
  have sG:aAm H1 G:=fun b o h=>kp _ _ (aAg h h0) h
  walk_at "go"
  refine i_d (fun c1=>?_) (fun c1=>?_)
  ·walk_at "go"
   refine r_fmK (i:=60) (by decide) fun z hz=>?_
   walk_at "go"
   intro z'
   walk_at "go"
   exact ⟨by rw [sizeLine_eq]; exact (show 1<=16777216 by decide),q2 (by omega) _ (s1.trans sG)⟩
  ·walk_at "go"
   exact q1 (by omega) acc G (s1.trans sG) ⟨ys,hG,pt⟩
set_option maxHeartbeats 0 in
theorem aLo (T:Bl mg) (d:Df K mg "read_rows" aE3 ["text"] ) (W:XmS mg xt x0 x1 x4 x5 x10) (R_NoText:XrS K xt x0 x1 x4 x5 x10 x5 5) (o_piece_in:aC0 P w K mg base k "piece_in" ["lines","counts"] [] (aK6 K x5)) (o_end_behind:aC0 P w K mg base k "end_behind" ["lines","place"] [] (aN5 K x5)) (o_plain_row_in:aC0 P w K mg base k "plain_row_in" ["words","counts"] [] (aHc K x5)) (o_lines_in:aC0 P w K mg base k "lines_in" ["text"] [] (aHe K x5)):aC0 P w K mg base (k+1) "read_rows" ["text"] [] (aDe K x5):=by
 refine aC0.of d aBq (fun vs H Q E h=>?_) (fun f cdv A outer s H vs Q E hr h=>?_)
 ·obtain ⟨x,rfl,_⟩:=h
  rfl
 ·obtain ⟨x,rfl,h⟩:=h
  refine ⟨_,(@aAe _ _ _ _ _ (@aAp _ _ (i:=1) _ _ _ _ aBq.nd rfl (by first | exact Or.inl rfl | exact Or.inr rfl) (@aA9 _ _ _ _ _ _ _ _ _ _ _ _ o_lines_in hr rfl aDd (@aAa _ _ _ _ _ (pv 0) (@aAc _) (by rfl)) (by decide) (by rfl) (by rfl)) (by rfl) (by first | exact .inl rfl | exact .inr rfl | assumption)) (@aAe _ _ _ _ _ (@aAp _ _ (i:=2) _ _ _ _ aBq.nd rfl (by first | exact Or.inl rfl | exact Or.inr rfl) (@aA4 _ _ _ _ (@aAc _)) (by rfl) (by first | exact .inl rfl | exact .inr rfl | assumption)) (@aAe _ _ _ _ _ (@aAp _ _ (i:=3) _ _ _ _ aBq.nd rfl (by first | exact Or.inl rfl | exact Or.inr rfl) (@aOk _ _) (by rfl) (by first | exact .inl rfl | exact .inr rfl | assumption)) (@aAe _ _ _ _ _ (@aAp _ _ (i:=4) _ _ _ _ aBq.nd rfl (by first | exact Or.inl rfl | exact Or.inr rfl) (@aAb _ _ _ _) (by rfl) (by first | exact .inl rfl | exact .inr rfl | assumption)) (@aAe _ _ _ _ _ (@aJ5 _ _ _ _ _ _ PassesOwn.leaving (@aAl _ _ _ _ _ _ _ _ aQ9 (pv 4) (@aAk _ _ _ _ _ _ _ _ _ aBo rfl T.z_len aAz (@aAa _ _ _ _ _ (pv 1) (@aAc _) (by rfl)) (by decide) (by decide) (by rfl) (by rfl)) (aAo _)) (@aAf _ _ _ (@aA6 _ _ _ _ _ _ _ _ (@aAl _ _ _ _ _ _ _ _ (aA0 hr.units) (@aAr _ _ _ _ _ _ _ aAt (@aAr _ _ _ _ _ _ _ aAt (pv 1) (pv 4) (fun _ _=>rfl)) (@aAb _ _ _ _) (fun _ _=>rfl)) (@aAi _ _ _ _) (aAo _)) (@aAe _ _ _ _ _ (@aAp _ _ (i:=5) _ _ _ _ aBq.nd rfl (by first | exact Or.inl rfl | exact Or.inr rfl) (@aA9 _ _ _ _ _ _ _ _ _ _ _ _ o_end_behind hr rfl aDd (@aAa _ _ _ _ _ (pv 1) (@aAa _ _ _ _ _ (pv 4) (@aAc _) (by rfl)) (by rfl)) (by decide) (by rfl) (by rfl)) (by rfl) (by first | exact .inl rfl | exact .inr rfl | assumption)) (@aAe _ _ _ _ _ (@aAp _ _ (i:=6) _ _ _ _ aBq.nd rfl (by first | exact Or.inl rfl | exact Or.inr rfl) (@aA9 _ _ _ _ _ _ _ _ _ _ _ _ o_piece_in hr rfl aDd (@aAa _ _ _ _ _ (@aAy _ _ _ _ _ _ _ _ _ _ aBv (pv 1) (@aBb _ _ _ (pv 4)) (@aBb _ _ _ (pv 5))) (@aAa _ _ _ _ _ (pv 3) (@aAc _) (by rfl)) (by rfl)) (by decide) (by rfl) (by rfl)) (by rfl) (by first | exact .inl rfl | exact .inr rfl | assumption)) (@aAe _ _ _ _ _ (@aE5 _ _ _ _ _ _ _ _ _ hr.u1 (pv 3) (@aAr _ _ _ _ _ _ _ aAt (pv 6) (@aAb _ _ _ _) (fun _ _=>rfl)) (@aAk _ _ _ _ _ _ _ _ _ aBo rfl T.z_len aAz (@aAa _ _ _ _ _ (@aAr _ _ _ _ _ _ _ aAt (pv 6) (@aAb _ _ _ _) (fun _ _=>rfl)) (@aAc _) (by rfl)) (by decide) (by decide) (by rfl) (by rfl)) rfl) (@aAe _ _ _ _ _ (@aBh _ _ _ _ (@aB4 _ _ _ _ _ _ _ _ _ _ _ _ PySem.F.plainAttrs_list PySem.F.slot_list_append PySem.F.type_list_append aBm (pv 2) (@aAa _ _ _ _ _ (pv 6) (@aAc _) (by rfl)) (by rfl) (by rfl) (by rfl) (by rfl) (by rfl)) (by rfl)) (@aAf _ _ _ (@aAp _ _ (i:=4) _ _ _ _ aBq.nd rfl (by first | exact Or.inl rfl | exact Or.inr rfl) (@aAj _ _ _ _ _ _ _ _ aAs (pv 5) (@aAb _ _ _ _)) (by rfl) (by first | exact .inl rfl | exact .inr rfl | assumption))))))) (@aAe _ _ _ _ _ (@aBh _ _ _ _ (@aB4 _ _ _ _ _ _ _ _ _ _ _ _ PySem.F.plainAttrs_list PySem.F.slot_list_append PySem.F.type_list_append aBm (pv 2) (@aAa _ _ _ _ _ (@aA9 _ _ _ _ _ _ _ _ _ _ _ _ o_plain_row_in hr rfl aDd (@aAa _ _ _ _ _ (@aAr _ _ _ _ _ _ _ aAt (pv 1) (pv 4) (fun _ _=>rfl)) (@aAa _ _ _ _ _ (pv 3) (@aAc _) (by rfl)) (by rfl)) (by decide) (by rfl) (by rfl)) (@aAc _) (by rfl)) (by rfl) (by rfl) (by rfl) (by rfl) (by rfl)) (by rfl)) (@aAf _ _ _ (@bAu _ _ (i:=4) _ _ _ _ _ _ aBq.nd rfl (by first | exact Or.inl rfl | exact Or.inr rfl) (@aAb _ _ _ _) bBs (by first | exact .inl rfl | exact .inr rfl))))))) (@aAf _ _ _ (@aAq _ _ _ _ (pv 2)))))))),?_⟩
  rcases h with ⟨z,rfl,hz,q1,q2⟩ | ⟨hno,q⟩
  rotate_left
  ·walk_at "go"
   exact ⟨_,rfl,.inr ⟨hno,q⟩⟩
  walk_at "go"
  refine ⟨_,rfl,.inl ⟨z,rfl,hz,fun h60 ll H1 s1 hls=>?_,fun h60=>q2 (if_neg (by omega))⟩⟩
  unfold aLf at q1 q2
  rw [if_pos h60] at q2
  have hlw:∀ ws∈aEj z,ws≠[]/\wt ws<=200000:=fun ws h=>by
   have:=aT3 h
   exact ⟨this.1,by omega⟩
  replace q1:∀ gs l H',LR (fun _=>none) none [] (aEj z)=some gs->H l=none->aAm H H'->GsQ H' l gs->Q (.ref l) H':=fun gs l H' e=>q1 gs l H' (by rw [if_pos h60]; exact e)
  generalize aEj z=ls at h60 hls hlw q1 q2
  obtain ⟨vs,hvs,pv⟩:=id hls
  have hvl:=Paired.length pv
  walk_at "go"
  refine aA2 fun lr hlr=>?_
  have a2:=aAm.new (o:=.lst []) hlr
  have b2:=aAd (H:=H1) (a:=lr) (o:=.lst [])
  generalize L2.upd H1 lr (.lst [])=H2 at a2 b2 ⊢
  walk_at "go"
  refine aU0 fun dc hdc=>?_
  have a3:=aAm.new (o:=.dK []) hdc
  have b3:=aAd (H:=H2) (a:=dc) (o:=.dK [])
  generalize L2.upd H2 dc (.dK [])=H3 at a3 b3 ⊢
  have ndr:lr≠dc:=aAg b2 hdc
  have hdc1:H1 dc=none:=a2.free hdc
  walk_at "go"
  refine aTe (fun m σ G=>∃ (i:Nat) (f':Cnt) (gs:List aCp) (o5 o6:Option V),m+i=ls.length/\σ=[some (.str z),some (.ref ll),some (.ref lr),some (.ref dc),some (.int (i:Int)),o5,o6]/\(∀ b o,b≠lr->b≠dc->H1 b=some o->G b=some o)/\TK H1 G/\GsQ G lr gs/\gs.length<=i/\KdQ G dc f' i/\LR f' none gs (ls.drop i)=LR (fun _=>none) none [] ls) (m0:=ls.length) ⟨0,fun _=>none,[],_,_,rfl,rfl,fun b o _ _ h=>a3 _ _ (a2 _ _ h),a2.tk.trans a3.tk,⟨[],a3 _ _ b2,.nil⟩,Nat.le_refl _,⟨[],b3,Nat.le_refl _,fun _=>rfl⟩,rfl⟩ ?_
  rintro m σ G ⟨i,f',gs,o5,o6,him,rfl,kp,tk,⟨xs,hxs,px⟩,hgl,cd,eL⟩
  have sG:aAm H1 G:=fun b o h=>kp b o (aAg h hlr) (aAg h hdc1) h
  have hvsG:=sG _ _ hvs
  have hxl:=Paired.length px
  by_cases c1:i < ls.length
  rotate_left
  ·walk_at "go"
   rw [List.drop_eq_nil_of_le (by omega)] at eL
   exact q1 gs lr G eL.symm (s1.free hlr) (s1.trans sG) ⟨xs,hxs,px⟩
  obtain ⟨v,hv⟩:∃ v,vs[i]?=some v:=⟨_,List.getElem?_eq_getElem (by omega)⟩
  obtain ⟨ws,hws,a,rfl,ha⟩:=Paired.at pv hv
  have haG:=sG _ _ ha
  have hmem:=List.mem_of_getElem? hws
  obtain ⟨hw1,hw2⟩:=hlw ws hmem
  obtain ⟨kw,r,rfl⟩:∃ k r,ws=k::r:=by
   cases ws with
   | nil=>exact absurd rfl hw1
   | cons k r=>exact ⟨k,r,rfl⟩
  have a0:atI (List.map V.str (kw::r)) 0=some (.str kw):=show atI _ ((0:Nat):Int)=_ from aA7 rfl
  walk_at "go"
  refine ⟨fun σ' G'=>∃ m',m' < m/\∃ (i:Nat) (f':Cnt) (gs:List aCp) (o5 o6:Option V),m'+i=ls.length/\σ'=[some (.str z),some (.ref ll),some (.ref lr),some (.ref dc),some (.int (i:Int)),o5,o6]/\(∀ b o,b≠lr->b≠dc->H1 b=some o->G' b=some o)/\TK H1 G'/\GsQ G' lr gs/\gs.length<=i/\KdQ G' dc f' i/\LR f' none gs (ls.drop i)=LR (fun _=>none) none [] ls,fun σ' G' h=>h,?_⟩
  walk_at "go"
  refine aBa hvsG (aA7 hv) ?_
  walk_at "go"
  refine aBa haG a0 ?_
  walk_at "go"
  by_cases ek:kw="piece"
  rotate_left
  ·rw [if_neg (show ¬ (kw==Str.ofString "piece")=true by simpa using ek)]
   rw [aEl hws,aYc,aO1 ek] at eL
   walk_at "go"
   refine aBa hvsG (aA7 hv) ?_
   walk_at "go"
   refine ⟨a,dc,f',i,kw::r,rfl,hw1,haG,hw2,cd,fun t u G2 et s2 rq=>?_,fun en H' s'=>q2 (by rw [← eL,en]) H' ((s1.trans sG).trans s')⟩
   rw [et] at eL
   walk_at "go"
   refine aJ3 (s2 _ _ hxs) (by omega) ?_
   have k3:Kp lr G2 (L2.upd G2 lr (.lst (xs++[u]))):=Kp.upd
   have tk3:=TK.lst (o:=.lst (xs++[u])) (s2 _ _ hxs)
   have g3:=aAd (H:=G2) (a:=lr) (o:=.lst (xs++[u]))
   generalize L2.upd G2 lr (.lst (xs++[u]))=G3 at k3 tk3 g3 ⊢
   have g3r:GsQ G3 lr (gs++[.one t]):=⟨_,g3,Pd.snoc (Pd.imp px fun v b f=>(aEw.tk f s2.tk).tk tk3) (aBp.tk rq tk3)⟩
   walk_at "go"
   refine r_aug rfl ?_
   refine ⟨_,_,rfl,rfl,?_⟩
   dsimp only [List.set]
   obtain ⟨kd,hk,hkl,hkv⟩:=cd.sm s2
   exact ⟨m - 1,by omega,i+1,f',gs++[.one t],_,_,by omega,rfl,fun b o h1 h2 h=>k3 _ _ h1 (s2 _ _ (kp b o h1 h2 h)),(tk.trans s2.tk).trans tk3,g3r,by rw [List.length_append]; exact Nat.succ_le_succ hgl,⟨kd,k3 _ _ (fun e=>ndr e.symm) hk,by omega,hkv⟩,eL⟩
  subst ek
  walk_at "go"
  refine ⟨ll,ls,i,rfl,hls.sm sG,h60,by omega,fun b G1 hib hbe hno t1=>?_,fun hno H' s'=>q2 ?_ H' ((s1.trans sG).trans s')⟩
  rotate_left
  ·rw [← eL,aEl hws]
   refine aUn ⟨r,rfl⟩ fun w hw=>?_
   obtain ⟨j,hj,e⟩:=List.getElem_of_mem hw
   rw [List.length_drop] at hj
   rw [List.getElem_drop] at e
   exact hno (i+1+j) (by omega) w (by rw [← e]; exact List.getElem?_eq_getElem (by omega))
  have hbl:b < ls.length:=(List.getElem?_eq_some_iff.mp hbe).1
  have hib':i < b:=by
   rcases Nat.lt_or_ge i b with h | h
   ·exact h
   ·exfalso
    rw [show b=i by omega,hws] at hbe
    have e:=Option.some.inj hbe
    exact absurd (List.cons.inj e).1 (by decide +kernel)
  have em:=aRq hws hbe hib'
  have hnoe:∀ w∈(ls.drop (i+1)).take (b - i - 1),w≠[("end":Str)]:=fun w hw=>by
   obtain ⟨j,hj,e⟩:=List.getElem_of_mem hw
   rw [List.length_take,List.length_drop] at hj
   rw [List.getElem_take,List.getElem_drop] at e
   exact hno (i+1+j) (by omega) (by omega) w (by rw [← e]; exact List.getElem?_eq_getElem (by omega))
  rw [em,aUm ⟨r,rfl⟩ hnoe] at eL
  have hvs1:=t1 _ _ hvsG
  walk_at "go"
  refine aEb hvs1 fun l2 hl2=>?_
  rw [aXu (xs:=vs) (a:=i) (b:=b) (by omega) (by omega)]
  have pc2:Paired (LnQ H1) ((vs.drop i).take (b - i)) (("piece"::r)::(ls.drop (i+1)).take (b - i - 1)):=by
   have:=Pd.cut pv i (b - i)
   rw [aEl hws,show b - i=(b - i - 1)+1 by omega,List.take_succ_cons] at this
   rw [show b - i=(b - i - 1)+1 by omega]
   exact this
  generalize (vs.drop i).take (b - i)=ys at pc2 ⊢
  have hinl:((ls.drop (i+1)).take (b - i - 1)).length<=60:=by rw [List.length_take,List.length_drop]; omega
  have hinm:∀ w∈(ls.drop (i+1)).take (b - i - 1),w∈ls:=fun w hw=>List.mem_of_mem_drop (List.mem_of_mem_take hw)
  generalize (ls.drop (i+1)).take (b - i - 1)=inner at eL pc2 hinl hinm
  have t2:=aAm.new (o:=.lst ys) hl2
  have g2:=aAd (H:=G1) (a:=l2) (o:=.lst ys)
  generalize L2.upd G1 l2 (.lst ys)=G2 at t2 g2 ⊢
  have s12:=t1.trans t2
  walk_at "go"
  refine ⟨l2,dc,f',i,r,inner,rfl,⟨ys,g2,Pd.imp pc2 fun _ _ f=>f.sm (sG.trans s12)⟩,hinl,fun w hw=>?_,fun w hw=>(hlw w (hinm w hw)).1,cd.sm s12,fun p u G3 ep t3 pq=>?_,fun en H' s'=>q2 (by rw [← eL,en]) H' (((s1.trans sG).trans s12).trans s')⟩
  ·rcases List.mem_cons.mp hw with rfl | hw
   ·exact hw2
   ·exact (hlw w (hinm w hw)).2
  rw [ep] at eL
  obtain ⟨pp,q0,z0,xs0,rfl,h1,h2,h3,pt⟩:=id pq
  have s13:=s12.trans t3
  obtain ⟨kd,hk,hkl,hkv⟩:=cd.sm s13
  walk_at "go"
  refine aMx hk (by omega) ?_
  have tk4:=TK.dic (o:=.dK (aEu kd (Sum.inr p.1) (.int ((p.2.1.map V.str).length:Int)))) hk
  have k4:Kp dc G3 (L2.upd G3 dc (.dK (aEu kd (Sum.inr p.1) (.int ((p.2.1.map V.str).length:Int))))):=Kp.upd
  have g4:=aAd (H:=G3) (a:=dc) (o:=.dK (aEu kd (Sum.inr p.1) (.int ((p.2.1.map V.str).length:Int))))
  generalize L2.upd G3 dc (.dK (aEu kd (Sum.inr p.1) (.int ((p.2.1.map V.str).length:Int))))=G4 at tk4 k4 g4 ⊢
  have hx4:=k4 _ _ ndr (s13 _ _ hxs)
  walk_at "go"
  refine aJ3 hx4 (by omega) ?_
  have k5:Kp lr G4 (L2.upd G4 lr (.lst (xs++[.ref pp]))):=Kp.upd
  have tk5:=TK.lst (o:=.lst (xs++[.ref pp])) hx4
  have g5:=aAd (H:=G4) (a:=lr) (o:=.lst (xs++[.ref pp]))
  generalize L2.upd G4 lr (.lst (xs++[.ref pp]))=G5 at k5 tk5 g5 ⊢
  have tk35:=tk4.trans tk5
  have g5r:GsQ G5 lr (gs++[.piece p]):=⟨_,g5,Pd.snoc (Pd.imp px fun v b f=>(aEw.tk f s13.tk).tk tk35) (aEw.tk (r:=.piece p) pq tk35)⟩
  have g5d:=k5 _ _ (fun e=>ndr e.symm) g4
  rw [List.length_map] at g5d
  have kd5:=KdQ.put hkl hkv g5d
  walk_at "go"
  rw [show ((b:Int)+1)=((b+1:Nat):Int) from rfl]
  exact ⟨ls.length - (b+1),by omega,b+1,aTj f' p.1 p.2.1.length,gs++[.piece p],_,_,by omega,rfl,fun b o h1 h2 h=>k5 _ _ h1 (k4 _ _ h2 (s13 _ _ (kp b o h1 h2 h))),(tk.trans s13.tk).trans tk35,g5r,by rw [List.length_append]; show gs.length+1<=_; omega,let ⟨k,x1,x2,x3⟩:=kd5; ⟨k,x1,by omega,x3⟩,eL⟩
theorem aPm (T:Bl mg) (d:Df K mg "_law_cell_at" aHr ["_law_script","_law_k"]  ) (W:XmS mg xt x0 x1 x4 x5 x10) (R_NoText:XrS K xt x0 x1 x4 x5 x10 x5 5):Okf P w K mg base (k+1) "_law_cell_at" ["_law_script","_law_k"] (aUu K):=by
 refine Okf.of d aPa (fun vs H Q E h=>?_) (fun f cdv A outer s H vs Q E hr h=>?_)
 ·obtain ⟨a,ns,k',rfl,_⟩:=h
  rfl
 ·obtain ⟨a,ns,k',rfl,hS,h0,q⟩:=h
  refine ⟨_,(@aAe _ _ _ _ _ (@aA6 _ _ _ _ _ _ _ _ (@aAl _ _ _ _ _ _ _ _ aQ9 (pv 1) (@aAk _ _ _ _ _ _ _ _ _ aBo rfl T.z_len aAz (@aAa _ _ _ _ _ (pv 0) (@aAc _) (by rfl)) (by decide) (by decide) (by rfl) (by rfl)) (aAo _)) (@aAf _ _ _ (@aAq _ _ _ _ (@aAr _ _ _ _ _ _ _ aAt (pv 0) (pv 1) (fun _ _=>rfl)))) (@aAu _)) (@aAf _ _ _ (@aAq _ _ _ _ (@aAb _ _ _ _)))),?_⟩
  walk_at "go"
  refine aOf hS ?_
  walk_at "go"
  refine i_d (fun c=>?_) (fun c=>?_)
  ·rw [List.length_map] at c
   obtain ⟨z,_,hz⟩:=pick (ns:=ns) h0 c
   walk_at "go"
   refine r_ixs hS hz ?_
   walk_at "go"
   exact q z
  ·walk_at "go"
   exact q 0
set_option maxHeartbeats 0 in
theorem aRe (T:Bl mg) (d:Df K mg "_law_number" aJv ["_law_script","_law_k"]  ) (W:XmS mg xt x0 x1 x4 x5 x10) (R_NoText:XrS K xt x0 x1 x4 x5 x10 x5 5) (o_cell_at:Okf P w K mg base k "_law_cell_at" ["_law_script","_law_k"] (aUu K)):Okf P w K mg base (k+1) "_law_number" ["_law_script","_law_k"] (aN2 K):=by
 refine Okf.of d aDn (fun vs H Q E h=>?_) (fun f cdv A outer s H vs Q E hr h=>?_)
 ·obtain ⟨a,ns,k',rfl,_⟩:=h
  rfl
 ·obtain ⟨a,ns,k',rfl,hS,h0,hk,q⟩:=h
  refine ⟨_,(@aAe _ _ _ _ _ (@aAp _ _ (i:=2) _ _ _ _ aDn.nd rfl (by first | exact Or.inl rfl | exact Or.inr rfl) (@aAn _ _ _ _ _ _ _ _ _ _ o_cell_at hr rfl (@aAa _ _ _ _ _ (pv 0) (@aAa _ _ _ _ _ (pv 1) (@aAc _) (by rfl)) (by rfl)) (by decide) (by rfl) (by rfl)) (by rfl) (by first | exact .inl rfl | exact .inr rfl | assumption)) (@aAe _ _ _ _ _ (@aA6 _ _ _ _ _ _ _ _ (@PW.pt _ _ _ (@aCf _ _ _ _ _ _ _ (@aAl _ _ _ _ _ _ _ _ (aA0 hr.units) (@aAj _ _ _ _ _ _ _ _ aA5 (@aAn _ _ _ _ _ _ _ _ _ _ o_cell_at hr rfl (@aAa _ _ _ _ _ (pv 0) (@aAa _ _ _ _ _ (@aAb _ _ _ _) (@aAc _) (by rfl)) (by rfl)) (by decide) (by rfl) (by rfl)) (@aAb _ _ _ _)) (@aAb _ _ _ _) (aAo _)) (@aCl _ _ _ _ (@aAl _ _ _ _ _ _ _ _ aTr (pv 2) (@aAj _ _ _ _ _ _ _ _ aQ8 (@aAb _ _ _ _) (@aAb _ _ _ _)) (aAo _))))) (@aAf _ _ _ (@aAq _ _ _ _ (pv 2))) (@aAu _)) (@aAe _ _ _ _ _ (@aAp _ _ (i:=3) _ _ _ _ aDn.nd rfl (by first | exact Or.inl rfl | exact Or.inr rfl) (@aAj _ _ _ _ _ _ _ _ aA5 (@aAj _ _ _ _ _ _ _ _ aCm (@aAj _ _ _ _ _ _ _ _ aAs (@aAj _ _ _ _ _ _ _ _ aAs (@aAj _ _ _ _ _ _ _ _ aA5 (pv 2) (@aAb _ _ _ _)) (@aAj _ _ _ _ _ _ _ _ aCm (@aAj _ _ _ _ _ _ _ _ aCm (@aAb _ _ _ _) (pv 1)) (pv 1))) (@aAb _ _ _ _)) (@aAb _ _ _ _)) (@aAb _ _ _ _)) (by rfl) (by first | exact .inl rfl | exact .inr rfl | assumption)) (@aAe _ _ _ _ _ (@aAp _ _ (i:=4) _ _ _ _ aDn.nd rfl (by first | exact Or.inl rfl | exact Or.inr rfl) (@aAj _ _ _ _ _ _ _ _ aA5 (@aAj _ _ _ _ _ _ _ _ aCm (pv 3) (@aAj _ _ _ _ _ _ _ _ aAs (@aAj _ _ _ _ _ _ _ _ aA5 (pv 3) (@aAb _ _ _ _)) (@aAb _ _ _ _))) (@aAb _ _ _ _)) (by rfl) (by first | exact .inl rfl | exact .inr rfl | assumption)) (@aAe _ _ _ _ _ (@aAp _ _ (i:=5) _ _ _ _ aDn.nd rfl (by first | exact Or.inl rfl | exact Or.inr rfl) (@aAj _ _ _ _ _ _ _ _ aA5 (@aAj _ _ _ _ _ _ _ _ aCm (@aAj _ _ _ _ _ _ _ _ aAs (pv 4) (@aAj _ _ _ _ _ _ _ _ aCm (@aAj _ _ _ _ _ _ _ _ aCm (@aAb _ _ _ _) (pv 1)) (pv 1))) (@aAj _ _ _ _ _ _ _ _ aAs (@aAj _ _ _ _ _ _ _ _ aA5 (pv 3) (@aAb _ _ _ _)) (@aAb _ _ _ _))) (@aAb _ _ _ _)) (by rfl) (by first | exact .inl rfl | exact .inr rfl | assumption)) (@aAe _ _ _ _ _ (@aAp _ _ (i:=6) _ _ _ _ aDn.nd rfl (by first | exact Or.inl rfl | exact Or.inr rfl) (@aAj _ _ _ _ _ _ _ _ aAs (@aAj _ _ _ _ _ _ _ _ aCm (@aAj _ _ _ _ _ _ _ _ aAs (@aAj _ _ _ _ _ _ _ _ aCm (pv 3) (@aAb _ _ _ _)) (pv 4)) (@aAb _ _ _ _)) (pv 5)) (by rfl) (by first | exact .inl rfl | exact .inr rfl | assumption)) (@aAe _ _ _ _ _ (@aA6 _ _ _ _ _ _ _ _ (@aAl _ _ _ _ _ _ _ _ (aA0 hr.units) (@aAj _ _ _ _ _ _ _ _ aA5 (@aAn _ _ _ _ _ _ _ _ _ _ o_cell_at hr rfl (@aAa _ _ _ _ _ (pv 0) (@aAa _ _ _ _ _ (@aAb _ _ _ _) (@aAc _) (by rfl)) (by rfl)) (by decide) (by rfl) (by rfl)) (@aAb _ _ _ _)) (@aAb _ _ _ _) (aAo _)) (@aAf _ _ _ (@aAq _ _ _ _ (@aAj _ _ _ _ _ _ _ _ aAs (@aAj _ _ _ _ _ _ _ _ aCm (pv 6) (@aAj _ _ _ _ _ _ _ _ aQ8 (@aAb _ _ _ _) (@aAb _ _ _ _))) (@aAj _ _ _ _ _ _ _ _ aA5 (pv 2) (@aAj _ _ _ _ _ _ _ _ aQ8 (@aAb _ _ _ _) (@aAb _ _ _ _)))))) (@aAu _)) (@aAf _ _ _ (@aAq _ _ _ _ (pv 6)))))))))),?_⟩
  walk_at "go"
  refine ⟨a,ns,k',rfl,hS,h0,fun c=>?_⟩
  walk_at "go"
  refine ⟨a,ns,0,rfl,hS,Int.le_refl 0,fun c0=>?_⟩
  walk_at "go"
  refine i_d (fun e1=>?_) (fun e1=>?_)
  ·walk_at "go"
   refine i_d (fun e2=>?_) (fun e2=>?_)
   ·walk_at "go"
    exact q _ (by omega)
   ·walk_at "go"
    refine ⟨a,ns,0,rfl,hS,Int.le_refl 0,fun c1=>?_⟩
    walk_at "go"
    have hone:∀ z:Int,0<=z % 2147483629:=fun z=>Int.emod_nonneg z (by decide)
    have htwo:∀ z:Int,0<=z % 2147483587:=fun z=>Int.emod_nonneg z (by decide)
    have hthr:∀ z:Int,0<=z % 2147483543:=fun z=>Int.emod_nonneg z (by decide)
    have h1:=hone ((c % 2147483647+7919 * k' * k'+11) * 69621)
    generalize (c % 2147483647+7919 * k' * k'+11) * 69621 % 2147483629=one at h1 ⊢
    have h2:=htwo (one * (one % 65521+48271))
    generalize one * (one % 65521+48271) % 2147483587=two at h2 ⊢
    have h3:=hthr ((two+40692 * k' * k') * (one % 7919+39373))
    generalize (two+40692 * k' * k') * (one % 7919+39373) % 2147483543=thr at h3 ⊢
    refine i_d (fun e3=>?_) (fun e3=>?_)
    ·walk_at "go"
     exact q _ (nn_b (nn_a h1 h2 h3))
    ·walk_at "go"
     exact q _ (nn_a h1 h2 h3)
  ·walk_at "go"
   refine ⟨a,ns,0,rfl,hS,Int.le_refl 0,fun c1=>?_⟩
   walk_at "go"
   have hone:∀ z:Int,0<=z % 2147483629:=fun z=>Int.emod_nonneg z (by decide)
   have htwo:∀ z:Int,0<=z % 2147483587:=fun z=>Int.emod_nonneg z (by decide)
   have hthr:∀ z:Int,0<=z % 2147483543:=fun z=>Int.emod_nonneg z (by decide)
   have h1:=hone ((c % 2147483647+7919 * k' * k'+11) * 69621)
   generalize (c % 2147483647+7919 * k' * k'+11) * 69621 % 2147483629=one at h1 ⊢
   have h2:=htwo (one * (one % 65521+48271))
   generalize one * (one % 65521+48271) % 2147483587=two at h2 ⊢
   have h3:=hthr ((two+40692 * k' * k') * (one % 7919+39373))
   generalize (two+40692 * k' * k') * (one % 7919+39373) % 2147483543=thr at h3 ⊢
   refine i_d (fun e3=>?_) (fun e3=>?_)
   ·walk_at "go"
    exact q _ (nn_b (nn_a h1 h2 h3))
   ·walk_at "go"
    exact q _ (nn_a h1 h2 h3)
theorem aRf (T:Bl mg) (d:Df K mg "_law_lowest" aJx ["_law_top","_law_bottom"]  ) (W:XmS mg xt x0 x1 x4 x5 x10) (R_NoText:XrS K xt x0 x1 x4 x5 x10 x5 5):Okf P w K mg base (k+1) "_law_lowest" ["_law_top","_law_bottom"] aJk:=by
 refine Okf.of d aFc (fun vs H Q E h=>?_) (fun f cdv A outer s H vs Q E hr h=>?_)
 ·obtain ⟨t,b,rfl,_⟩:=h
  rfl
 ·obtain ⟨t,b,rfl,hb,hs1,hs2,q⟩:=h
  refine ⟨_,(@aAe _ _ _ _ _ (@aAp _ _ (i:=2) _ _ _ _ aFc.nd rfl (by first | exact Or.inl rfl | exact Or.inr rfl) (@aAk _ _ _ _ _ _ _ _ _ bCd rfl T.z_abs aVm (@aAa _ _ _ _ _ (pv 0) (@aAc _) (by rfl)) (by decide) (by decide) (by rfl) (by rfl)) (by rfl) (by first | exact .inl rfl | exact .inr rfl | assumption)) (@aAe _ _ _ _ _ (@aAp _ _ (i:=3) _ _ _ _ aFc.nd rfl (by first | exact Or.inl rfl | exact Or.inr rfl) (pv 1) (by rfl) (by first | exact .inl rfl | exact .inr rfl | assumption)) (@aAe _ _ _ _ _ (@aJ5 _ _ _ _ _ _ PassesOwn.never (@aAl _ _ _ _ _ _ _ _ (aD5 hr.units) (pv 3) (@aAb _ _ _ _) (aAo _)) (@aAf _ _ _ (@bAt _ _ (i:=2) (j:=3) _ _ _ _ _ _ _ _ _ _ _ rfl aFc.nd rfl rfl (by decide) rfl rfl (@aAa _ _ _ _ _ (pv 3) (@aAa _ _ _ _ _ (@aAj _ _ _ _ _ _ _ _ aA5 (pv 2) (pv 3)) (@aAc _) (by rfl)) (by rfl)) rfl (by rfl)))) (@aAf _ _ _ (@aAq _ _ _ _ (@aBy _ _ _ _ _ (@aAa _ _ _ _ _ (@aAj _ _ _ _ _ _ _ _ aAw (pv 0) (pv 2)) (@aAa _ _ _ _ _ (@aAj _ _ _ _ _ _ _ _ aAw (pv 1) (pv 2)) (@aAc _) (by rfl)) (by rfl)))))))),?_⟩
  walk_at "go"
  refine aNs (fun σ H'=>∃ one other:Int,σ=[some (.int t),some (.int b),some (.int one),some (.int other)]/\H'=H/\0<=one/\0<=other/\Int.gcd one other=Int.gcd t b)
   (fun σ _=>match σ with | [_,_,_,some (.int z)]=>z.toNat | _=>0) ⟨_,_,rfl,rfl,by split <;> omega,by omega,?_⟩ ?_ ?_
  ·have e:∀ z:Int,(if z < 0 then -z else z)=(z.natAbs:Int):=fun z=>by split <;> omega
   rw [e]
   simp [Int.gcd]
  ·rintro σ H' ⟨one,other,rfl,rfl,h1,h2,hg⟩
   walk_at "go"
   refine i_d (fun c=>?_) (fun c=>?_)
   ·subst c
    have e1:one=(Int.gcd t b:Int):=by rw [← hg,Int.gcd_zero_right]; omega
    have hb0:b≠0:=by omega
    have hgb:(Int.gcd t b:Int).natAbs<=b.natAbs:=by
     have:=Nat.le_of_dvd (by omega) (Int.gcd_dvd_natAbs_right t b)
     omega
    subst e1
    walk_at "go"
    have es:(Int.gcd t b:Int)=sg t b:=by unfold sg; rw [if_neg (by omega)]
    rw [es]
    have hc:∀ z,aMh z (sg t b):=fun _=>⟨aQl hb0,Sm.le (by rw [aLb]; omega) hs2⟩
    refine aQy (hc _) ?_
    walk_at "go"
    refine aQy (hc _) ?_
    walk_at "go"
    refine aBr fun p hp=>?_
    walk_at "go"
    exact q p hp
   ·walk_at "go"
    refine ⟨⟨_,_,rfl,rfl,h2,Int.emod_nonneg _ (by omega),by rw [aUa (by omega)]; exact hg⟩,?_⟩
    have:=Int.emod_lt_of_pos one (show 0 < other by omega)
    show (one % other).toNat < other.toNat
    omega
  ·intro σ H Q Q' hQ h
   obtain ⟨v,e1,h⟩:=h
   rcases h with ⟨e2,b',e3,q'⟩ | ⟨d,e,e2,e3,e4,e5,b',e6,q'⟩
   ·exact ⟨v,e1,.inl ⟨e2,b',e3,hQ _ _ q'⟩⟩
   ·exact ⟨v,e1,.inr ⟨d,e,e2,e3,e4,e5,b',e6,hQ _ _ q'⟩⟩
set_option maxHeartbeats 0 in
theorem aTv (T:Bl mg) (d:Df K mg "_law_names" aJw ["_law_script"]  ) (W:XmS mg xt x0 x1 x4 x5 x10) (R_NoText:XrS K xt x0 x1 x4 x5 x10 x5 5) (o_number:Okf P w K mg base k "_law_number" ["_law_script","_law_k"] (aN2 K)):Okf P w K mg base (k+1) "_law_names" ["_law_script"] (aHd K):=by
 refine Okf.of d aFb (fun vs H Q E h=>?_) (fun f cdv A outer s H vs Q E hr h=>?_)
 ·obtain ⟨a,ns,rfl,_⟩:=h
  rfl
 ·obtain ⟨a,ns,rfl,hS,q⟩:=h
  refine ⟨_,(@aAe _ _ _ _ _ (@aAp _ _ (i:=1) _ _ _ _ aFb.nd rfl (by first | exact Or.inl rfl | exact Or.inr rfl) (@aAi _ _ _ _) (by rfl) (by first | exact .inl rfl | exact .inr rfl | assumption)) (@aAe _ _ _ _ _ (@aAp _ _ (i:=2) _ _ _ _ aFb.nd rfl (by first | exact Or.inl rfl | exact Or.inr rfl) (@aAn _ _ _ _ _ _ _ _ _ _ o_number hr rfl (@aAa _ _ _ _ _ (pv 0) (@aAa _ _ _ _ _ (@aAb _ _ _ _) (@aAc _) (by rfl)) (by rfl)) (by decide) (by rfl) (by rfl)) (by rfl) (by first | exact .inl rfl | exact .inr rfl | assumption)) (@aAe _ _ _ _ _ (@aAp _ _ (i:=3) _ _ _ _ aFb.nd rfl (by first | exact Or.inl rfl | exact Or.inr rfl) (@aAy _ _ _ _ _ _ _ _ _ _ aYv (pv 1) (@aBi _) (@aBb _ _ _ (@aAj _ _ _ _ _ _ _ _ aA5 (pv 2) (@aAb _ _ _ _)))) (by rfl) (by first | exact .inl rfl | exact .inr rfl | assumption)) (@aAe _ _ _ _ _ (@aAp _ _ (i:=4) _ _ _ _ aFb.nd rfl (by first | exact Or.inl rfl | exact Or.inr rfl) (@aAj _ _ _ _ _ _ _ _ aWu (@aAr _ _ _ _ _ _ _ aAt (pv 1) (@aAj _ _ _ _ _ _ _ _ aA5 (@aAj _ _ _ _ _ _ _ _ aAw (pv 2) (@aAb _ _ _ _)) (@aAb _ _ _ _)) (fun _ _=>rfl)) (@aAj _ _ _ _ _ _ _ _ aA5 (@aAj _ _ _ _ _ _ _ _ aAw (pv 2) (@aAb _ _ _ _)) (@aAb _ _ _ _))) (by rfl) (by first | exact .inl rfl | exact .inr rfl | assumption)) (@aAf _ _ _ (@aAq _ _ _ _ (@aC8 _ _ _ _ _ _ _ _ _ _ _ _ _ _ (@aB7 _ _ (sc:=aAh aJw) (N:=["_law_script","_law_letters","_law_number_here","_law_before","_law_behind"]) (tn:=["_law_k"]) (names:=["_law_number_here","_law_letters","_law_behind","_law_before"]) (is:=[2,1,4,3]) rfl rfl (by decide +kernel) (by decide +kernel) rfl (by decide +kernel) rfl (by decide +kernel) (by decide +kernel) (by decide +kernel)) rfl (@aDr _ _ _ _ _ _ rfl T.z_range (@aAa _ _ _ _ _ (@aAb _ _ _ _) (@aAc _) (by rfl)) (by rfl)) (fun _ _ _ _=>(@aAx _ _ (i:=0) _ (show (["_law_k","_law_number_here","_law_letters","_law_behind","_law_before"]:List Str).Nodup by decide +kernel) rfl (Or.inl rfl) (Or.inr rfl))) (fun _ _ _ _=>(@aAj _ _ _ _ _ _ _ _ aEv (@aAj _ _ _ _ _ _ _ _ aEv (pv 4) (@aAr _ _ _ _ _ _ _ aRw (pv 2) (@aAj _ _ _ _ _ _ _ _ aA5 (@aAj _ _ _ _ _ _ _ _ aEv (@aAj _ _ _ _ _ _ _ _ aAw (pv 1) (@aAb _ _ _ _)) (@aAj _ _ _ _ _ _ _ _ aCm (@aAb _ _ _ _) (pv 0))) (@aAb _ _ _ _)) (fun _ _=>rfl))) (pv 3))) (fun _ _ _ _=>(@aB9 _)) (by intro _; rfl)))))))),?_⟩
  have h26:abc.length<=100000:=by rw [aXy]; decide
  walk_at "go"
  refine ⟨a,ns,1,rfl,hS,by decide,by decide,fun r hr=>?_⟩
  walk_at "go"
  obtain ⟨i,hi,ei⟩:∃ i:Nat,i < 4/\r % 4=i:=⟨(r % 4).toNat,by omega,by omega⟩
  rw [ei]
  refine aY6 h26 ?_
  obtain ⟨lb,Lb⟩:=sl4 i hi
  generalize Txt.slice abc none (some (i:Int))=bef at lb Lb ⊢
  walk_at "go"
  obtain ⟨j,hj,ej⟩:∃ j:Nat,j < 26/\r.fdiv 4 % 26=(j:Int):=⟨(r.fdiv 4 % 26).toNat,by omega,by omega⟩
  rw [ej]
  refine aTg h26 (aVn j hj) ?_
  walk_at "go"
  have m0:0<=r.fdiv 104 % 5/\r.fdiv 104 % 5 < 5:=by omega
  generalize r.fdiv 104 % 5=mm at m0 ⊢
  have l1:∀ c:Nat,(⟨#[c]⟩:Str).length=1:=fun _=>rfl
  refine ⟨_,_,rfl,rfl,m0.1,by omega,by rw [l1]; decide,fun beh hb=>?_⟩
  obtain ⟨lh,Lh⟩:=aV2 hb (l1 _) (aPv.one (by omega) (by omega))
  clear hb
  walk_at "go"
  refine ⟨8,rfl,by decide,by decide,?_⟩
  refine aMy (n:=8) (by omega) (fun acc k ys G=>Kp acc H G/\ys=((List.range k).map (aT1 bef beh (r.fdiv 520))).map V.str) ?_ ?_ ?_
  ·intro acc h0
   exact ⟨Kp.new h0,rfl⟩
  ·rintro acc k ys G h0 hk hyl hG ⟨kp,rfl⟩
   walk_at "go"
   obtain ⟨o,ho,eo⟩:∃ j:Nat,j < 26/\(r.fdiv 520+3 * (0+(k:Int))) % 26=(j:Int):=⟨((r.fdiv 520+3 * (0+(k:Int))) % 26).toNat,by omega,by omega⟩
   have e1:aT1 bef beh (r.fdiv 520) k=bef++⟨#[97+o]⟩++beh:=by
    unfold aT1
    rw [show ((r.fdiv 520+3 * (k:Int)) % 26).toNat=o by rw [Int.zero_add] at eo; omega]
   rw [eo]
   refine aTg h26 (aVn o ho) ?_
   refine aEz (by rw [l1]; omega) ?_
   walk_at "go"
   refine aEz (by rw [aCc,l1]; omega) ?_
   refine aDu hk hyl hG ⟨kp.trans Kp.upd,?_⟩
   rw [List.range_succ,List.map_append,List.map_append]
   show _=_++[V.str (aT1 bef beh (r.fdiv 520) k)]
   rw [e1]
  rintro acc ys G h0 hG hyl ⟨kp,rfl⟩
  walk_at "go"
  refine q acc G _ h0 (fun b o h=>kp _ _ (aAg h h0) h) hG (by simp) (fun s hs=>?_) (nm_nd _ _ _)
  obtain ⟨k,hk,rfl⟩:=List.mem_map.mp hs
  have ho:((r.fdiv 520+3 * (k:Int)) % 26).toNat < 26:=by omega
  unfold aT1
  exact aTq (by rw [aCc,aCc,l1]; omega) (by rw [aCc,aCc,l1]; omega) ((Lb.app (aPv.one (by omega) (by omega))).app Lh)
set_option maxHeartbeats 0 in
theorem aW2 (T:Bl mg) (d:Df K mg "_law_post" aOa ["_law_number_here","_law_names_here"]  ) (W:XmS mg xt x0 x1 x4 x5 x10) (R_NoText:XrS K xt x0 x1 x4 x5 x10 x5 5):Okf P w K mg base (k+1) "_law_post" ["_law_number_here","_law_names_here"] aN0:=by
 refine Okf.of d aJq (fun vs H Q E h=>?_) (fun f cdv A outer s H vs Q E hr h=>?_)
 ·obtain ⟨c,ln,U,rfl,_⟩:=h
  rfl
 ·obtain ⟨c,ln,U,rfl,hc,hln,hUl,hU,q⟩:=h
  refine ⟨_,(@aAe _ _ _ _ _ (@aAp _ _ (i:=2) _ _ _ _ aJq.nd rfl (by first | exact Or.inl rfl | exact Or.inr rfl) (@aAj _ _ _ _ _ _ _ _ aA5 (pv 0) (@aAb _ _ _ _)) (by rfl) (by first | exact .inl rfl | exact .inr rfl | assumption)) (@aAe _ _ _ _ _ (@aAp _ _ (i:=3) _ _ _ _ aJq.nd rfl (by first | exact Or.inl rfl | exact Or.inr rfl) (@aAj _ _ _ _ _ _ _ _ aA5 (@aAj _ _ _ _ _ _ _ _ aAw (pv 0) (@aAb _ _ _ _)) (@aAb _ _ _ _)) (by rfl) (by first | exact .inl rfl | exact .inr rfl | assumption)) (@aAe _ _ _ _ _ (@aA6 _ _ _ _ _ _ _ _ (@aAl _ _ _ _ _ _ _ _ aQ9 (pv 2) (@aAb _ _ _ _) (aAo _)) (@aAf _ _ _ (@aAq _ _ _ _ (@aAr _ _ _ _ _ _ _ aAt (pv 1) (pv 3) (fun _ _=>rfl)))) (@aAu _)) (@aAe _ _ _ _ _ (@aA6 _ _ _ _ _ _ _ _ (@aAl _ _ _ _ _ _ _ _ (aA0 hr.units) (pv 2) (@aAb _ _ _ _) (aAo _)) (@aAf _ _ _ (@aAq _ _ _ _ (@aAj _ _ _ _ _ _ _ _ aAs (@aAj _ _ _ _ _ _ _ _ aAs (@aAr _ _ _ _ _ _ _ aAt (pv 1) (pv 3) (fun _ _=>rfl)) (@aAi _ _ _ _)) (@aAr _ _ _ _ _ _ _ aAt (pv 1) (@aAj _ _ _ _ _ _ _ _ aA5 (@aAj _ _ _ _ _ _ _ _ aAw (pv 0) (@aAb _ _ _ _)) (@aAb _ _ _ _)) (fun _ _=>rfl))))) (@aAu _)) (@aAe _ _ _ _ _ (@aHt _ _ _ _ _ _ _ _ _ _ _ _ _ _ (i:=4) _ _ _ aJq.nd rfl (by first | exact Or.inl rfl | exact Or.inr rfl) (@aB7 _ _ (sc:=aAh aOa) (N:=["_law_number_here","_law_names_here","_law_kind","_law_first","_law_more"]) (tn:=["_law_k"]) (names:=["_law_number_here","_law_names_here","_law_first"]) (is:=[0,1,3]) rfl rfl (by decide +kernel) (by decide +kernel) rfl (by decide +kernel) rfl (by decide +kernel) (by decide +kernel) (by decide +kernel)) rfl (@aDr _ _ _ _ _ _ rfl T.z_range (@aAa _ _ _ _ _ (@aAj _ _ _ _ _ _ _ _ aAs (@aAb _ _ _ _) (@aAj _ _ _ _ _ _ _ _ aA5 (@aAj _ _ _ _ _ _ _ _ aAw (pv 0) (@aAb _ _ _ _)) (@aAb _ _ _ _))) (@aAc _) (by rfl)) (by rfl)) (fun _ _ _ _=>(@aAx _ _ (i:=0) _ (show (["_law_k","_law_number_here","_law_names_here","_law_first"]:List Str).Nodup by decide +kernel) rfl (Or.inl rfl) (Or.inr rfl))) (fun _ _ _ _=>(@aAr _ _ _ _ _ _ _ aRw (pv 2) (@aAj _ _ _ _ _ _ _ _ aA5 (@aAj _ _ _ _ _ _ _ _ aEv (@aAj _ _ _ _ _ _ _ _ aEv (pv 3) (@aAb _ _ _ _)) (@aAj _ _ _ _ _ _ _ _ aCm (@aAj _ _ _ _ _ _ _ _ aA5 (@aAj _ _ _ _ _ _ _ _ aAw (pv 1) (@aAb _ _ _ _)) (@aAb _ _ _ _)) (pv 0))) (@aAb _ _ _ _)) (fun _ _=>rfl))) (fun _ _ _ _=>(@aB9 _)) (by intro _; rfl) (by rfl) (by first | exact .inl rfl | exact .inr rfl | assumption)) (@aAf _ _ _ (@aAq _ _ _ _ (@aB4 _ _ _ _ _ _ _ _ _ _ _ _ PySem.F.plainAttrs_str PySem.F.slot_str_join PySem.F.type_str_join aE8 (@aAi _ _ _ _) (@aAa _ _ _ _ _ (@aAj _ _ _ _ _ _ _ _ aAs (@aA4 _ _ _ _ (@aAa _ _ _ _ _ (@aAr _ _ _ _ _ _ _ aAt (pv 1) (pv 3) (fun _ _=>rfl)) (@aAc _) (by rfl))) (pv 4)) (@aAc _) (by rfl)) (by rfl) (by rfl) (by rfl) (by rfl) (by rfl))))))))),?_⟩
  have ep:(".":Str)=⟨#[46]⟩:=by decide +kernel
  have one:∀ {s:Str},s∈U->aDb s:=fun {s} hs=>by
   have:=aH5 (x:=s) (r:=[]) (fun p hp=>by rw [List.mem_singleton.mp hp]; exact hU s hs) (by decide)
   exact this
  walk_at "go"
  have i0:0<=c.fdiv 5 % 8/\c.fdiv 5 % 8 < 8:=by omega
  generalize c.fdiv 5 % 8=fi at i0 ⊢
  obtain ⟨s1,m1,e1⟩:=aEf (nm:=U) i0.1 (by omega)
  refine i_d (fun c1=>?_) (fun c1=>?_)
  ·walk_at "go"
   refine aBa hln e1 ?_
   walk_at "go"
   exact q _ _ (aAm.refl _) (one m1)
  walk_at "go"
  refine i_d (fun c2=>?_) (fun c2=>?_)
  ·walk_at "go"
   refine aBa hln e1 ?_
   walk_at "go"
   obtain ⟨p1,p2,_⟩:=aC2 (hU s1 m1)
   rw [ep]
   have l1:(⟨#[46]⟩:Str).length=1:=rfl
   refine aEz (by rw [l1]; omega) ?_
   walk_at "go"
   have i1:0<=c.fdiv 40 % 8/\c.fdiv 40 % 8 < 8:=by omega
   generalize c.fdiv 40 % 8=fj at i1 ⊢
   obtain ⟨s2,m2,e2⟩:=aEf (nm:=U) i1.1 (by omega)
   refine aBa hln e2 ?_
   obtain ⟨p3,p4,_⟩:=aC2 (hU s2 m2)
   refine aEz (by rw [aCc,l1]; omega) ?_
   walk_at "go"
   refine q _ _ (aAm.refl _) ?_
   have:=aH5 (x:=s1) (r:=[s2]) (fun p hp=>by
    rcases List.mem_cons.mp hp with rfl | hp
    ·exact hU _ m1
    ·rw [List.mem_singleton.mp hp]; exact hU _ m2) (show 1<=3 by decide)
   rw [show s1++⟨#[46]⟩++s2=Str.join ⟨#[46]⟩ [s1,s2] from by
    show Str.mk _=Str.mk _
    congr 1]
   exact this
  walk_at "go"
  have n0:0<=c.fdiv 280 % 3/\c.fdiv 280 % 3 < 3:=by omega
  generalize c.fdiv 280 % 3=mm at n0 ⊢
  refine aEd (by omega) (by omega) ?_
  refine aMy (n:=(1+mm).toNat) (by omega) (fun acc k ys G=>Kp acc H G/\∃ r:List Str,ys=r.map V.str/\∀ s∈r,s∈U) ?_ ?_ ?_
  ·intro acc h0
   exact ⟨Kp.new h0,[],rfl,fun _ h=>nomatch h⟩
  ·rintro acc k ys G h0 hk hyl hG ⟨kp,r,rfl,hr'⟩
   walk_at "go"
   obtain ⟨s2,m2,e2⟩:=aEf (nm:=U) (i:=(fi+1+c.fdiv 40 % 7 * (0+(k:Int))) % 8) (Int.emod_nonneg _ (by decide)) (by have:=Int.emod_lt_of_pos (fi+1+c.fdiv 40 % 7 * (0+(k:Int))) (show (0:Int) < 8 by decide); omega)
   refine aBa (kp _ _ (aAg hln h0) hln) e2 ?_
   refine aDu hk hyl hG ⟨kp.trans Kp.upd,r++[s2],by simp,fun s hs=>?_⟩
   rcases List.mem_append.mp hs with h | h
   ·exact hr' s h
   ·rw [List.mem_singleton.mp h]
    exact m2
  rintro acc ys G h0 hG hyl ⟨kp,r,rfl,hr'⟩
  rw [List.length_map] at hyl
  have sG:aAm H G:=fun b o h=>kp _ _ (aAg h h0) h
  walk_at "go"
  refine aBa (sG _ _ hln) e1 ?_
  walk_at "go"
  refine aA2 fun l2 hl2=>?_
  have s2:=aAm.new (o:=.lst [.str s1]) hl2
  walk_at "go"
  refine aUj aAd (s2 _ _ hG) (by rw [List.length_map]; show 1+_<=_; omega) fun l3 hl3=>?_
  rw [show ([V.str s1]++r.map V.str)=(s1::r).map V.str from rfl]
  walk_at "go"
  rw [ep]
  have hall:∀ p∈s1::r,aA3 p=true:=fun p hp=>(List.mem_cons.mp hp).elim (fun e=>by rw [e]; exact hU _ m1) fun h=>hU _ (hr' p h)
  have hsum:=aQf (cs:=s1::r) fun c hc=>(aC2 (hall c hc)).2.1
  rw [List.length_cons] at hsum
  refine ⟨_,l3,_,rfl,rfl,aAd,?_,?_⟩
  ·show _+(s1::r).length * 1<=_
   rw [List.length_cons]
   omega
  walk_at "go"
  exact q _ _ ((sG.trans s2).trans (aAm.new hl3)) (aH5 hall (by omega))
set_option maxHeartbeats 0 in
theorem aWz (T:Bl mg) (d:Df K mg "_law_time" aQq ["_law_number_here"]  ) (W:XmS mg xt x0 x1 x4 x5 x10) (R_NoText:XrS K xt x0 x1 x4 x5 x10 x5 5) (o_lowest:Okf P w K mg base k "_law_lowest" ["_law_top","_law_bottom"] aJk):Okf P w K mg base (k+1) "_law_time" ["_law_number_here"] aNw:=by
 refine Okf.of d aJo (fun vs H Q E h=>?_) (fun f cdv A outer s H vs Q E hr h=>?_)
 ·obtain ⟨c,rfl,_⟩:=h
  rfl
 ·obtain ⟨c,rfl,hc,q⟩:=h
  refine ⟨_,(@aAe _ _ _ _ _ (@aAp _ _ (i:=1) _ _ _ _ aJo.nd rfl (by first | exact Or.inl rfl | exact Or.inr rfl) (@aAr _ _ _ _ _ _ _ aAt (@aA4 _ _ _ _ (@aAa _ _ _ _ _ (@aAb _ _ _ _) (@aAa _ _ _ _ _ (@aAb _ _ _ _) (@aAa _ _ _ _ _ (@aAb _ _ _ _) (@aAc _) (by rfl)) (by rfl)) (by rfl))) (@aAj _ _ _ _ _ _ _ _ aA5 (pv 0) (@aAb _ _ _ _)) (fun _ _=>rfl)) (by rfl) (by first | exact .inl rfl | exact .inr rfl | assumption)) (@aAe _ _ _ _ _ (@aAp _ _ (i:=2) _ _ _ _ aJo.nd rfl (by first | exact Or.inl rfl | exact Or.inr rfl) (@aAb _ _ _ _) (by rfl) (by first | exact .inl rfl | exact .inr rfl | assumption)) (@aAe _ _ _ _ _ (@aA6 _ _ _ _ _ _ _ _ (@aAl _ _ _ _ _ _ _ _ (aA0 hr.units) (@aAj _ _ _ _ _ _ _ _ aA5 (@aAj _ _ _ _ _ _ _ _ aAw (pv 0) (@aAb _ _ _ _)) (@aAb _ _ _ _)) (@aAb _ _ _ _) (aAo _)) (@aAf _ _ _ (@aAp _ _ (i:=2) _ _ _ _ aJo.nd rfl (by first | exact Or.inl rfl | exact Or.inr rfl) (@aAj _ _ _ _ _ _ _ _ aAs (@aAb _ _ _ _) (@aAj _ _ _ _ _ _ _ _ aA5 (@aAj _ _ _ _ _ _ _ _ aAw (@aAj _ _ _ _ _ _ _ _ aAw (pv 0) (@aAb _ _ _ _)) (pv 1)) (pv 1))) (by rfl) (by first | exact .inl rfl | exact .inr rfl | assumption))) (@aAu _)) (@aAf _ _ _ (@aAq _ _ _ _ (@aAn _ _ _ _ _ _ _ _ _ _ o_lowest hr rfl (@aAa _ _ _ _ _ (@aAj _ _ _ _ _ _ _ _ aAs (@aAb _ _ _ _) (@aAj _ _ _ _ _ _ _ _ aA5 (@aAj _ _ _ _ _ _ _ _ aAw (pv 0) (@aAb _ _ _ _)) (pv 1))) (@aAa _ _ _ _ _ (pv 2) (@aAc _) (by rfl)) (by rfl)) (by decide) (by rfl) (by rfl))))))),?_⟩
  walk_at "go"
  refine aA2 fun l4 hl4=>?_
  have s1:=aAm.new (o:=.lst [V.int 9,V.int 30,V.int 999999999999]) hl4
  have hl':=aAd (H:=H) (a:=l4) (o:=.lst [V.int 9,V.int 30,V.int 999999999999])
  generalize L2.upd H l4 (.lst [V.int 9,V.int 30,V.int 999999999999])=G2 at s1 hl' ⊢
  walk_at "go"
  obtain ⟨t,et,ht⟩:=at3 (x0:=9) (x1:=30) (x2:=999999999999) (fun z=>0 < z/\z<=999999999999) (by decide) (by decide) (by decide) (c % 3) (Int.emod_nonneg _ (by decide)) (Int.emod_lt_of_pos _ (by decide))
  refine aBa hl' et ?_
  have fin:∀ b:Int,0 < b->b<=999999999999->∀ (p:Addr),G2 p=none->Q (.ref p) (L2.upd G2 p (.tup [.int (aGk (1+c.fdiv 6 % t) b),.int (aF8 (1+c.fdiv 6 % t) b)])):=fun b h1 h2 p hp=>by
   have m0:=Int.emod_nonneg (c.fdiv 6) (show t≠0 by omega)
   have m1:=Int.emod_lt_of_pos (c.fdiv 6) ht.1
   exact q _ _ _ (s1.trans (aAm.new hp)) (FrQ.low (by omega) aAd) (aVu (by omega) (by omega) h1 h2)
  have sm:∀ {z:Int},0<=z->z<=10 ^ 12->Sm 8000 z:=fun {z} h0 h1=>Nat.lt_of_le_of_lt (show z.natAbs<=10 ^ 12 by omega) (by decide)
  have m0:=Int.emod_nonneg (c.fdiv 6) (show t≠0 by omega)
  have m1:=Int.emod_lt_of_pos (c.fdiv 6) ht.1
  walk_at "go"
  refine i_d (fun c1=>?_) (fun c1=>?_)
  ·walk_at "go"
   have n0:=Int.emod_nonneg ((c.fdiv 6).fdiv t) (show t≠0 by omega)
   have n1:=Int.emod_lt_of_pos ((c.fdiv 6).fdiv t) ht.1
   generalize (c.fdiv 6).fdiv t % t=bb at n0 n1 ⊢
   exact ⟨_,_,rfl,by omega,sm (by omega) (by omega),sm (by omega) (by omega),fin _ (by omega) (by omega)⟩
  ·walk_at "go"
   exact ⟨_,_,rfl,by omega,sm (by omega) (by omega),sm (by omega) (by omega),fin _ (by omega) (by omega)⟩
set_option maxHeartbeats 0 in
theorem aTt (T:Bl mg) (d:Df K mg "_law_posts" aMp ["_law_number_here","_law_names_here","_law_many"]  ) (W:XmS mg xt x0 x1 x4 x5 x10) (R_NoText:XrS K xt x0 x1 x4 x5 x10 x5 5) (o_post:Okf P w K mg base k "_law_post" ["_law_number_here","_law_names_here"] aN0):Okf P w K mg base (k+1) "_law_posts" ["_law_number_here","_law_names_here","_law_many"] aHa:=by
 refine Okf.of d aGz (fun vs H Q E h=>?_) (fun f cdv A outer s H vs Q E hr h=>?_)
 ·obtain ⟨c,ln,U,m,rfl,_⟩:=h
  rfl
 ·obtain ⟨c,ln,U,m,rfl,hc,hln,hUl,hU,hm,q⟩:=h
  refine ⟨_,(@aAe _ _ _ _ _ (@aAp _ _ (i:=3) _ _ _ _ aGz.nd rfl (by first | exact Or.inl rfl | exact Or.inr rfl) (@aA4 _ _ _ _ (@aAc _)) (by rfl) (by first | exact .inl rfl | exact .inr rfl | assumption)) (@aAe _ _ _ _ _ (@aDq _ _ _ _ _ _ _ _ PassesOwn.never rfl (@aDr _ _ _ _ _ _ rfl T.z_range (@aAa _ _ _ _ _ (pv 2) (@aAc _) (by rfl)) (by rfl)) (@aAx _ _ (i:=4) _ aGz.nd rfl (by first | exact Or.inl rfl | exact Or.inr rfl) (by first | exact .inl rfl | exact .inr rfl | assumption)) (@aAe _ _ _ _ _ (@aBh _ _ _ _ (@aB4 _ _ _ _ _ _ _ _ _ _ _ _ PySem.F.plainAttrs_list PySem.F.slot_list_append PySem.F.type_list_append aBm (pv 3) (@aAa _ _ _ _ _ (@aAn _ _ _ _ _ _ _ _ _ _ o_post hr rfl (@aAa _ _ _ _ _ (pv 0) (@aAa _ _ _ _ _ (pv 1) (@aAc _) (by rfl)) (by rfl)) (by decide) (by rfl) (by rfl)) (@aAc _) (by rfl)) (by rfl) (by rfl) (by rfl) (by rfl) (by rfl)) (by rfl)) (@aAf _ _ _ (@aAp _ _ (i:=0) _ _ _ _ aGz.nd rfl (by first | exact Or.inl rfl | exact Or.inr rfl) (@aAj _ _ _ _ _ _ _ _ aAw (pv 0) (@aAb _ _ _ _)) (by rfl) (by first | exact .inl rfl | exact .inr rfl | assumption)))) (by intro _; rfl)) (@aAf _ _ _ (@aAq _ _ _ _ (@aA8 _ _ _ _ _ _ _ _ _ aBe rfl T.z_tuple aCo (@aAa _ _ _ _ _ (pv 3) (@aAc _) (by rfl)) (by decide) (by decide) (by rfl) (by rfl)))))),?_⟩
  walk_at "go"
  refine aA2 fun l0 hl0=>?_
  walk_at "go"
  refine aEd (by omega) (by omega) ?_
  rw [Int.toNat_natCast]
  refine aGi (n:=m) (fun i σ G=>∃ (c:Int) (ps:List Str) (o4:Option V),σ=[some (.int c),some (.ref ln),some (.int (m:Int)),some (.ref l0),o4]/\0<=c/\Kp l0 H G/\G l0=some (.lst (ps.map V.str))/\ps.length=i/\∀ s∈ps,aDb s) ⟨c,[],_,rfl,hc,Kp.new hl0,aAd,rfl,fun _ h=>nomatch h⟩ ?_ ?_
  ·rintro i σ G hi ⟨c,ps,o4,rfl,hc,kp,hG,hpl,hps⟩
   have hnl:=aAg hln hl0
   walk_at "go"
   refine ⟨c,ln,U,rfl,hc,kp _ _ hnl hln,hUl,hU,fun s G1 s1 ps1=>?_⟩
   walk_at "go"
   refine aJ3 (s1 _ _ hG) (by rw [List.length_map]; omega) ?_
   walk_at "go"
   refine ⟨c.fdiv 840,ps++[s],_,rfl,aBw hc (by decide),(kp.trans s1.kp).trans Kp.upd,by rw [List.map_append]; exact aAd,by rw [List.length_append,hpl]; rfl,fun x hx=>?_⟩
   rcases List.mem_append.mp hx with h | h
   ·exact hps x h
   ·rw [List.mem_singleton.mp h]
    exact ps1
  rintro σ G ⟨c,ps,o4,rfl,hc,kp,hG,hpl,hps⟩
  walk_at "go"
  refine ⟨l0,_,rfl,.inl ⟨SqL.of hG,fun p hp=>?_⟩⟩
  walk_at "go"
  have sG:aAm H G:=fun b o h=>kp _ _ (aAg h hl0) h
  exact q p _ ps (sG.trans (aAm.new hp)) aAd hpl hps
set_option maxHeartbeats 0 in
theorem aTu (T:Bl mg) (d:Df K mg "_law_plain" aMq ["_law_number_here","_law_names_here"]  ) (W:XmS mg xt x0 x1 x4 x5 x10) (R_NoText:XrS K xt x0 x1 x4 x5 x10 x5 5) (o_time:Okf P w K mg base k "_law_time" ["_law_number_here"] aNw) (o_posts:Okf P w K mg base k "_law_posts" ["_law_number_here","_law_names_here","_law_many"] aHa):Okf P w K mg base (k+1) "_law_plain" ["_law_number_here","_law_names_here"] aK5:=by
 refine Okf.of d aCs (fun vs H Q E h=>?_) (fun f cdv A outer s H vs Q E hr h=>?_)
 ·obtain ⟨c,ln,U,rfl,_⟩:=h
  rfl
 ·obtain ⟨c,ln,U,rfl,hc,hln,hUl,hU,q⟩:=h
  refine ⟨_,(@aAe _ _ _ _ _ (@aAp _ _ (i:=2) _ _ _ _ aCs.nd rfl (by first | exact Or.inl rfl | exact Or.inr rfl) (@aAj _ _ _ _ _ _ _ _ aA5 (pv 0) (@aAb _ _ _ _)) (by rfl) (by first | exact .inl rfl | exact .inr rfl | assumption)) (@aAe _ _ _ _ _ (@aAp _ _ (i:=3) _ _ _ _ aCs.nd rfl (by first | exact Or.inl rfl | exact Or.inr rfl) (@aAr _ _ _ _ _ _ _ aAt (@aA4 _ _ _ _ (@aAa _ _ _ _ _ (@aAb _ _ _ _) (@aAa _ _ _ _ _ (@aAb _ _ _ _) (@aAa _ _ _ _ _ (@aAb _ _ _ _) (@aAa _ _ _ _ _ (@aAb _ _ _ _) (@aAa _ _ _ _ _ (@aAb _ _ _ _) (@aAc _) (by rfl)) (by rfl)) (by rfl)) (by rfl)) (by rfl))) (@aAj _ _ _ _ _ _ _ _ aA5 (@aAj _ _ _ _ _ _ _ _ aAw (pv 0) (@aAb _ _ _ _)) (@aAb _ _ _ _)) (fun _ _=>rfl)) (by rfl) (by first | exact .inl rfl | exact .inr rfl | assumption)) (@aAe _ _ _ _ _ (@aA6 _ _ _ _ _ _ _ _ (@aAl _ _ _ _ _ _ _ _ (aA0 hr.units) (pv 2) (@aAb _ _ _ _) (aAo _)) (@aAf _ _ _ (@aAp _ _ (i:=3) _ _ _ _ aCs.nd rfl (by first | exact Or.inl rfl | exact Or.inr rfl) (@aAb _ _ _ _) (by rfl) (by first | exact .inl rfl | exact .inr rfl | assumption))) (@aAu _)) (@aAe _ _ _ _ _ (@aA6 _ _ _ _ _ _ _ _ (@aAl _ _ _ _ _ _ _ _ (aA0 hr.units) (pv 2) (@aAb _ _ _ _) (aAo _)) (@aAf _ _ _ (@aAp _ _ (i:=3) _ _ _ _ aCs.nd rfl (by first | exact Or.inl rfl | exact Or.inr rfl) (@aAk _ _ _ _ _ _ _ _ _ (bCc rfl) rfl T.z_max aVl (@aAa _ _ _ _ _ (@aAb _ _ _ _) (@aAa _ _ _ _ _ (pv 3) (@aAc _) (by rfl)) (by rfl)) (by decide) (by decide) (by rfl) (by rfl)) (by rfl) (by first | exact .inl rfl | exact .inr rfl | assumption))) (@aAu _)) (@aAe _ _ _ _ _ (@aAp _ _ (i:=4) _ _ _ _ aCs.nd rfl (by first | exact Or.inl rfl | exact Or.inr rfl) (@aAn _ _ _ _ _ _ _ _ _ _ o_posts hr rfl (@aAa _ _ _ _ _ (@aAj _ _ _ _ _ _ _ _ aAw (pv 0) (@aAb _ _ _ _)) (@aAa _ _ _ _ _ (pv 1) (@aAa _ _ _ _ _ (pv 3) (@aAc _) (by rfl)) (by rfl)) (by rfl)) (by decide) (by rfl) (by rfl)) (by rfl) (by first | exact .inl rfl | exact .inr rfl | assumption)) (@aAe _ _ _ _ _ (@aAp _ _ (i:=5) _ _ _ _ aCs.nd rfl (by first | exact Or.inl rfl | exact Or.inr rfl) (@aAj _ _ _ _ _ _ _ _ aAw (pv 0) (@aAb _ _ _ _)) (by rfl) (by first | exact .inl rfl | exact .inr rfl | assumption)) (@aAe _ _ _ _ _ (@aDq _ _ _ _ _ _ _ _ PassesOwn.never rfl (@aDr _ _ _ _ _ _ rfl T.z_range (@aAa _ _ _ _ _ (pv 3) (@aAc _) (by rfl)) (by rfl)) (@aAx _ _ (i:=6) _ aCs.nd rfl (by first | exact Or.inl rfl | exact Or.inr rfl) (by first | exact .inl rfl | exact .inr rfl | assumption)) (@aAf _ _ _ (@aAp _ _ (i:=5) _ _ _ _ aCs.nd rfl (by first | exact Or.inl rfl | exact Or.inr rfl) (@aAj _ _ _ _ _ _ _ _ aAw (pv 5) (@aAb _ _ _ _)) (by rfl) (by first | exact .inl rfl | exact .inr rfl | assumption))) (by intro _; rfl)) (@aAe _ _ _ _ _ (@aAp _ _ (i:=7) _ _ _ _ aCs.nd rfl (by first | exact Or.inl rfl | exact Or.inr rfl) (@aAn _ _ _ _ _ _ _ _ _ _ o_time hr rfl (@aAa _ _ _ _ _ (pv 5) (@aAc _) (by rfl)) (by decide) (by rfl) (by rfl)) (by rfl) (by first | exact .inl rfl | exact .inr rfl | assumption)) (@aAe _ _ _ _ _ (@aA6 _ _ _ _ _ _ _ _ (@aAl _ _ _ _ _ _ _ _ (aA0 hr.units) (pv 2) (@aAb _ _ _ _) (aAo _)) (@aAf _ _ _ (@aAq _ _ _ _ (@aBy _ _ _ _ _ (@aAa _ _ _ _ _ (@aAi _ _ _ _) (@aAa _ _ _ _ _ (@aAr _ _ _ _ _ _ _ aAt (pv 4) (@aAb _ _ _ _) (fun _ _=>rfl)) (@aAa _ _ _ _ _ (@aAr _ _ _ _ _ _ _ aAt (pv 4) (@aAb _ _ _ _) (fun _ _=>rfl)) (@aAa _ _ _ _ _ (pv 7) (@aAc _) (by rfl)) (by rfl)) (by rfl)) (by rfl))))) (@aAu _)) (@aAf _ _ _ (@aAq _ _ _ _ (@aBy _ _ _ _ _ (@aAa _ _ _ _ _ (@aAr _ _ _ _ _ _ _ aAt (@aA4 _ _ _ _ (@aAa _ _ _ _ _ (@aAi _ _ _ _) (@aAa _ _ _ _ _ (@aAi _ _ _ _) (@aAa _ _ _ _ _ (@aAi _ _ _ _) (@aAc _) (by rfl)) (by rfl)) (by rfl))) (@aAj _ _ _ _ _ _ _ _ aI8 (pv 2) (@aAb _ _ _ _)) (fun _ _=>rfl)) (@aAa _ _ _ _ _ (pv 7) (@aAa _ _ _ _ _ (pv 4) (@aAc _) (by rfl)) (by rfl)) (by rfl)))))))))))))),?_⟩
  walk_at "go"
  refine aA2 fun l5 hl5=>?_
  have s1:=aAm.new (o:=.lst [V.int 2,V.int 2,V.int 3,V.int 4,V.int 5]) hl5
  have hl5':=aAd (H:=H) (a:=l5) (o:=.lst [V.int 2,V.int 2,V.int 3,V.int 4,V.int 5])
  generalize L2.upd H l5 (.lst [V.int 2,V.int 2,V.int 3,V.int 4,V.int 5])=G0 at s1 hl5' ⊢
  walk_at "go"
  obtain ⟨m,em,hm2,hm5⟩:=at5 (c.fdiv 4 % 5) (Int.emod_nonneg _ (by decide)) (Int.emod_lt_of_pos _ (by decide))
  refine aBa hl5' em ?_
  have hk:c % 4=0∨c % 4=1∨c % 4=2∨c % 4=3:=by omega
  rcases hk with ek | ek | ek | ek
  ·rw [ek]
   walk_at "go"
   refine ⟨_,ln,U,2,rfl,aBw hc (by decide),s1 _ _ hln,hUl,hU,by omega,fun pp G1 ps t1 hpp hpl hps=>?_⟩
   walk_at "go"
   refine aEd (by omega) (by omega) ?_
   refine aGi (n:=2) (fun i σ G=>∃ (z:Int) (o6:Option V),σ=[some (.int c),some (.ref ln),some (.int 0),some (.int (2:Int)),some (.ref pp),some (.int z),o6,none]/\G=G1/\0<=z) ⟨_,_,rfl,rfl,aBw hc (by decide)⟩ ?_ ?_
   ·rintro i σ G hi ⟨z,o6,rfl,rfl,hz⟩
    walk_at "go"
    exact ⟨_,_,rfl,rfl,aBw hz (by decide)⟩
   rintro σ G ⟨z,o6,rfl,rfl,hz⟩
   walk_at "go"
   refine ⟨z,rfl,hz,fun vt qt G2 t2 ft tr=>?_⟩
   have hpp2:=t2 _ _ hpp
   have sG:=(s1.trans t1).trans t2
   walk_at "go"
   obtain ⟨a,b,rfl⟩:∃ a b,ps=[a,b]:=by
    match ps,hpl with
    | [a,b],_=>exact ⟨a,b,rfl⟩
   refine aZq hpp2 (aA7 (show ([a,b].map V.str)[0]?=some (V.str a) from rfl)) ?_
   walk_at "go"
   refine aBr fun p9 hp9=>?_
   walk_at "go"
   exact q _ _ (.run a b qt) (sG.trans (aAm.new hp9)) ⟨p9,vt,rfl,aAd,ft.tk (TK.new hp9)⟩ ⟨hps a (by simp),hps b (by simp),tr⟩
  ·rw [ek]
   walk_at "go"
   refine ⟨_,ln,U,m,rfl,aBw hc (by decide),s1 _ _ hln,hUl,hU,by omega,fun pp G1 ps t1 hpp hpl hps=>?_⟩
   walk_at "go"
   refine aEd (by omega) (by omega) ?_
   refine aGi (n:=m) (fun i σ G=>∃ (z:Int) (o6:Option V),σ=[some (.int c),some (.ref ln),some (.int 1),some (.int (m:Int)),some (.ref pp),some (.int z),o6,none]/\G=G1/\0<=z) ⟨_,_,rfl,rfl,aBw hc (by decide)⟩ ?_ ?_
   ·rintro i σ G hi ⟨z,o6,rfl,rfl,hz⟩
    walk_at "go"
    exact ⟨_,_,rfl,rfl,aBw hz (by decide)⟩
   rintro σ G ⟨z,o6,rfl,rfl,hz⟩
   walk_at "go"
   refine ⟨z,rfl,hz,fun vt qt G2 t2 ft tr=>?_⟩
   have hpp2:=t2 _ _ hpp
   have sG:=(s1.trans t1).trans t2
   walk_at "go"
   refine aA2 fun l8 hl8=>?_
   have t8:=aAm.new (o:=.lst [V.str "row",V.str "star",V.str "ring"]) hl8
   walk_at "go"
   refine aBr fun p9 hp9=>?_
   have t9:=t8.trans (aAm.new (o:=.tup [.str (aFy.nm .row),vt,.ref pp]) hp9)
   walk_at "go"
   exact q _ _ (.path .row qt ps) (sG.trans t9) ⟨p9,vt,pp,rfl,aAd,ft.tk t9.tk,t9 _ _ hpp2⟩ ⟨hps,tr,by omega,by omega,fun z=>nomatch z⟩
  ·rw [ek]
   walk_at "go"
   refine ⟨_,ln,U,m,rfl,aBw hc (by decide),s1 _ _ hln,hUl,hU,by omega,fun pp G1 ps t1 hpp hpl hps=>?_⟩
   walk_at "go"
   refine aEd (by omega) (by omega) ?_
   refine aGi (n:=m) (fun i σ G=>∃ (z:Int) (o6:Option V),σ=[some (.int c),some (.ref ln),some (.int 2),some (.int (m:Int)),some (.ref pp),some (.int z),o6,none]/\G=G1/\0<=z) ⟨_,_,rfl,rfl,aBw hc (by decide)⟩ ?_ ?_
   ·rintro i σ G hi ⟨z,o6,rfl,rfl,hz⟩
    walk_at "go"
    exact ⟨_,_,rfl,rfl,aBw hz (by decide)⟩
   rintro σ G ⟨z,o6,rfl,rfl,hz⟩
   walk_at "go"
   refine ⟨z,rfl,hz,fun vt qt G2 t2 ft tr=>?_⟩
   have hpp2:=t2 _ _ hpp
   have sG:=(s1.trans t1).trans t2
   walk_at "go"
   refine aA2 fun l8 hl8=>?_
   have t8:=aAm.new (o:=.lst [V.str "row",V.str "star",V.str "ring"]) hl8
   walk_at "go"
   refine aBr fun p9 hp9=>?_
   have t9:=t8.trans (aAm.new (o:=.tup [.str (aFy.nm .star),vt,.ref pp]) hp9)
   walk_at "go"
   exact q _ _ (.path .star qt ps) (sG.trans t9) ⟨p9,vt,pp,rfl,aAd,ft.tk t9.tk,t9 _ _ hpp2⟩ ⟨hps,tr,by omega,by omega,fun z=>nomatch z⟩
  ·rw [ek]
   walk_at "go"
   obtain ⟨m',em',h3,h5⟩:∃ m':Nat,(if (m:Int) > 3 then (m:Int) else 3)=(m':Int)/\3<=m'/\m'<=5:=by
    by_cases h:(m:Int) > 3
    ·exact ⟨m,by rw [if_pos h],by omega,hm5⟩
    ·exact ⟨3,by rw [if_neg h]; rfl,Nat.le_refl _,by decide⟩
   rw [em']
   walk_at "go"
   refine ⟨_,ln,U,m',rfl,aBw hc (by decide),s1 _ _ hln,hUl,hU,by omega,fun pp G1 ps t1 hpp hpl hps=>?_⟩
   walk_at "go"
   refine aEd (by omega) (by omega) ?_
   refine aGi (n:=m') (fun i σ G=>∃ (z:Int) (o6:Option V),σ=[some (.int c),some (.ref ln),some (.int 3),some (.int (m':Int)),some (.ref pp),some (.int z),o6,none]/\G=G1/\0<=z) ⟨_,_,rfl,rfl,aBw hc (by decide)⟩ ?_ ?_
   ·rintro i σ G hi ⟨z,o6,rfl,rfl,hz⟩
    walk_at "go"
    exact ⟨_,_,rfl,rfl,aBw hz (by decide)⟩
   rintro σ G ⟨z,o6,rfl,rfl,hz⟩
   walk_at "go"
   refine ⟨z,rfl,hz,fun vt qt G2 t2 ft tr=>?_⟩
   have hpp2:=t2 _ _ hpp
   have sG:=(s1.trans t1).trans t2
   walk_at "go"
   refine aA2 fun l8 hl8=>?_
   have t8:=aAm.new (o:=.lst [V.str "row",V.str "star",V.str "ring"]) hl8
   walk_at "go"
   refine aBr fun p9 hp9=>?_
   have t9:=t8.trans (aAm.new (o:=.tup [.str (aFy.nm .ring),vt,.ref pp]) hp9)
   walk_at "go"
   exact q _ _ (.path .ring qt ps) (sG.trans t9) ⟨p9,vt,pp,rfl,aAd,ft.tk t9.tk,t9 _ _ hpp2⟩ ⟨hps,tr,by omega,by omega,fun _=>by omega⟩
set_option maxHeartbeats 0 in
theorem bBc (T:Bl mg) (d:Df K mg "_law_row" aV0 ["_law_number_here","_law_names_here","_law_known"]  ) (W:XmS mg xt x0 x1 x4 x5 x10) (R_NoText:XrS K xt x0 x1 x4 x5 x10 x5 5) (o_plain:Okf P w K mg base k "_law_plain" ["_law_number_here","_law_names_here"] aK5) (o_posts:Okf P w K mg base k "_law_posts" ["_law_number_here","_law_names_here","_law_many"] aHa):Okf P w K mg base (k+1) "_law_row" ["_law_number_here","_law_names_here","_law_known"] (aQi K):=by
 refine Okf.of d aN7 (fun vs H Q E h=>?_) (fun f cdv A outer s H vs Q E hr h=>?_)
 ·obtain ⟨c,ln,U,lk,E,rfl,_⟩:=h
  rfl
 ·obtain ⟨c,ln,U,lk,E,rfl,hc,hln,hUl,hU,hk,hE8,hps,q⟩:=h
  refine ⟨_,(@aAe _ _ _ _ _ (@aA6 _ _ _ _ _ _ _ _ (@PW.pt _ _ _ (@aCf _ _ _ _ _ _ _ (@aAl _ _ _ _ _ _ _ _ (aA0 hr.units) (@aAj _ _ _ _ _ _ _ _ aA5 (pv 0) (@aAb _ _ _ _)) (@aAb _ _ _ _) (aAo _)) (@aCl _ _ _ _ (@aAl _ _ _ _ _ _ _ _ aJ8 (@aAk _ _ _ _ _ _ _ _ _ aBo rfl T.z_len aAz (@aAa _ _ _ _ _ (pv 2) (@aAc _) (by rfl)) (by decide) (by decide) (by rfl) (by rfl)) (@aAb _ _ _ _) (aAo _))))) (@aAe _ _ _ _ _ (@aOj _ _ _ _ _ _ (@aAr _ _ _ _ _ _ _ aAt (pv 2) (@aAj _ _ _ _ _ _ _ _ aA5 (@aAj _ _ _ _ _ _ _ _ aAw (pv 0) (@aAb _ _ _ _)) (@aAk _ _ _ _ _ _ _ _ _ aBo rfl T.z_len aAz (@aAa _ _ _ _ _ (pv 2) (@aAc _) (by rfl)) (by decide) (by decide) (by rfl) (by rfl))) (fun _ _=>rfl)) (@aU6 _ _ _ _ _ (n:=2) rfl (@aD2 _ _ _ _ _ (@aAx _ _ (i:=3) _ aN7.nd rfl (by first | exact Or.inl rfl | exact Or.inr rfl) (by first | exact .inl rfl | exact .inr rfl | assumption)) (@aD2 _ _ _ _ _ (@aAx _ _ (i:=4) _ aN7.nd rfl (by first | exact Or.inl rfl | exact Or.inr rfl) (by first | exact .inl rfl | exact .inr rfl | assumption)) (@aM0 _) (by rfl)) (by rfl)) (by rfl) (by rfl)) (by rfl) (by rfl) (by rfl)) (@aAe _ _ _ _ _ (@aAp _ _ (i:=0) _ _ _ _ aN7.nd rfl (by first | exact Or.inl rfl | exact Or.inr rfl) (@aAj _ _ _ _ _ _ _ _ aAw (@aAj _ _ _ _ _ _ _ _ aAw (pv 0) (@aAb _ _ _ _)) (@aAk _ _ _ _ _ _ _ _ _ aBo rfl T.z_len aAz (@aAa _ _ _ _ _ (pv 2) (@aAc _) (by rfl)) (by decide) (by decide) (by rfl) (by rfl))) (by rfl) (by first | exact .inl rfl | exact .inr rfl | assumption)) (@aAf _ _ _ (@aAq _ _ _ _ (@aBy _ _ _ _ _ (@aAa _ _ _ _ _ (@aAi _ _ _ _) (@aAa _ _ _ _ _ (pv 3) (@aAa _ _ _ _ _ (@aAr _ _ _ _ _ _ _ aAt (pv 1) (@aAj _ _ _ _ _ _ _ _ aA5 (pv 0) (@aAb _ _ _ _)) (fun _ _=>rfl)) (@aAa _ _ _ _ _ (@aAn _ _ _ _ _ _ _ _ _ _ o_posts hr rfl (@aAa _ _ _ _ _ (@aAj _ _ _ _ _ _ _ _ aAw (pv 0) (@aAb _ _ _ _)) (@aAa _ _ _ _ _ (pv 1) (@aAa _ _ _ _ _ (pv 4) (@aAc _) (by rfl)) (by rfl)) (by rfl)) (by decide) (by rfl) (by rfl)) (@aAc _) (by rfl)) (by rfl)) (by rfl)) (by rfl))))))) (@aAu _)) (@aAf _ _ _ (@aAq _ _ _ _ (@aAn _ _ _ _ _ _ _ _ _ _ o_plain hr rfl (@aAa _ _ _ _ _ (@aAj _ _ _ _ _ _ _ _ aAw (pv 0) (@aAb _ _ _ _)) (@aAa _ _ _ _ _ (pv 1) (@aAc _) (by rfl)) (by rfl)) (by decide) (by rfl) (by rfl))))),?_⟩
  obtain ⟨ks,hks,pk⟩:=hk
  have hkl:=Paired.length pk
  rw [List.length_reverse] at hkl
  walk_at "go"
  refine i_d (fun c1=>?_) (fun c1=>?_)
  ·walk_at "go"
   refine i_d (fun c2=>?_) (fun c2=>?_)
   ·have hpos:(0:Int) < (ks.length:Int):=by omega
    walk_at "go"
    have m0:=Int.emod_nonneg (c.fdiv 3) (show (ks.length:Int)≠0 by omega)
    have m1:=Int.emod_lt_of_pos (c.fdiv 3) hpos
    obtain ⟨j,hj,ej⟩:∃ j:Nat,j < ks.length/\c.fdiv 3 % (ks.length:Int)=(j:Int):=⟨(c.fdiv 3 % (ks.length:Int)).toNat,by omega,by omega⟩
    rw [ej]
    obtain ⟨v,hv⟩:∃ v,ks[j]?=some v:=⟨_,List.getElem?_eq_getElem hj⟩
    obtain ⟨p,hp0,a,rfl,ha⟩:=Paired.at pk hv
    have hpm:p∈E:=List.mem_reverse.mp (List.mem_of_getElem? hp0)
    have h8:=hps p hpm
    refine aBa hks (aA7 hv) ?_
    walk_at "go"
    have d0:0<=(c.fdiv 3).fdiv (ks.length:Int):=aBw (aBw hc (by decide)) hpos
    generalize (c.fdiv 3).fdiv (ks.length:Int)=c' at d0 ⊢
    obtain ⟨s1,ms1,e1⟩:=aEf (nm:=U) (i:=c' % 8) (Int.emod_nonneg _ (by decide)) (by have:=Int.emod_lt_of_pos c' (show (0:Int) < 8 by decide); omega)
    refine aBa hln e1 ?_
    walk_at "go"
    refine ⟨_,ln,U,p.2.1.length,rfl,aBw d0 (by decide),hln,hUl,hU,by omega,fun pp G ps sG hpp hpl hps'=>?_⟩
    walk_at "go"
    refine aBr fun p9 hp9=>?_
    walk_at "go"
    have t9:=aAm.new (o:=.tup [.str "put",.str p.1,.str s1,.ref pp]) hp9
    exact q _ _ (.put p.1 s1 ps) (sG.trans t9) ⟨p9,pp,rfl,aAd,t9 _ _ hpp⟩ ⟨hU s1 ms1,hps',by omega,p,hpm,rfl,hpl.symm⟩
   ·walk_at "go"
    exact ⟨_,ln,U,rfl,aBw hc (by decide),hln,hUl,hU,fun v H' r s rq ok=>q v H' (.plain r) s rq ok⟩
  ·walk_at "go"
   exact ⟨_,ln,U,rfl,aBw hc (by decide),hln,hUl,hU,fun v H' r s rq ok=>q v H' (.plain r) s rq ok⟩
set_option maxHeartbeats 0 in
theorem aRg (T:Bl mg) (d:Df K mg "_law_closed" aJz ["_law_state"]  ) (W:XmS mg xt x0 x1 x4 x5 x10) (R_NoText:XrS K xt x0 x1 x4 x5 x10 x5 5):Okf P w K mg base (k+1) "_law_closed" ["_law_state"] (aJl K):=by
 refine Okf.of d aFe (fun vs H Q E h=>?_) (fun f cdv A outer s H vs Q E hr h=>?_)
 ·obtain ⟨d,lf,lk,U,gs,x,H0,n,rfl,_⟩:=h
  rfl
 ·obtain ⟨d,lf,lk,U,gs,x,H0,n,rfl,s0,st,hne,hn,q⟩:=h
  refine ⟨_,(@aAe _ _ _ _ _ (@aOj _ _ _ _ _ _ (@aB2 _ _ _ _ _ _ hr.u1 (pv 0) (@aAi _ _ _ _) (fun _ _=>rfl)) (@bAx _ _ _ _ (n:=3) _ rfl (@aD2 _ _ _ _ _ (@aAx _ _ (i:=1) _ aFe.nd rfl (by first | exact Or.inl rfl | exact Or.inr rfl) (by first | exact .inl rfl | exact .inr rfl | assumption)) (@aD2 _ _ _ _ _ (@aAx _ _ (i:=2) _ aFe.nd rfl (by first | exact Or.inl rfl | exact Or.inr rfl) (by first | exact .inl rfl | exact .inr rfl | assumption)) (@aD2 _ _ _ _ _ (@aAx _ _ (i:=3) _ aFe.nd rfl (by first | exact Or.inl rfl | exact Or.inr rfl) (by first | exact .inl rfl | exact .inr rfl | assumption)) (@aM0 _) (by rfl)) (by rfl)) (by rfl)) (by rfl) (by rfl)) (by rfl) (by rfl) (by rfl)) (@aAe _ _ _ _ _ (@aBh _ _ _ _ (@aB4 _ _ _ _ _ _ _ _ _ _ _ _ PySem.F.plainAttrs_list PySem.F.slot_list_append PySem.F.type_list_append aBm (@aB2 _ _ _ _ _ _ hr.u1 (pv 0) (@aAi _ _ _ _) (fun _ _=>rfl)) (@aAa _ _ _ _ _ (@aBy _ _ _ _ _ (@aAa _ _ _ _ _ (@aAi _ _ _ _) (@aAa _ _ _ _ _ (pv 1) (@aAa _ _ _ _ _ (pv 2) (@aAa _ _ _ _ _ (@aA8 _ _ _ _ _ _ _ _ _ aBe rfl T.z_tuple aCo (@aAa _ _ _ _ _ (pv 3) (@aAc _) (by rfl)) (by decide) (by decide) (by rfl) (by rfl)) (@aAc _) (by rfl)) (by rfl)) (by rfl)) (by rfl))) (@aAc _) (by rfl)) (by rfl) (by rfl) (by rfl) (by rfl) (by rfl)) (by rfl)) (@aAe _ _ _ _ _ (@aBh _ _ _ _ (@aB4 _ _ _ _ _ _ _ _ _ _ _ _ PySem.F.plainAttrs_list PySem.F.slot_list_append PySem.F.type_list_append aBm (@aB2 _ _ _ _ _ _ hr.u1 (pv 0) (@aAi _ _ _ _) (fun _ _=>rfl)) (@aAa _ _ _ _ _ (@aBy _ _ _ _ _ (@aAa _ _ _ _ _ (pv 1) (@aAa _ _ _ _ _ (@aAk _ _ _ _ _ _ _ _ _ aBo rfl T.z_len aAz (@aAa _ _ _ _ _ (pv 2) (@aAc _) (by rfl)) (by decide) (by decide) (by rfl) (by rfl)) (@aAc _) (by rfl)) (by rfl))) (@aAc _) (by rfl)) (by rfl) (by rfl) (by rfl) (by rfl) (by rfl)) (by rfl)) (@aAe _ _ _ _ _ (@aE5 _ _ _ _ _ _ _ _ _ hr.u1 (pv 0) (@aAi _ _ _ _) (@aBj _ _ _) rfl) (@aAf _ _ _ (@aE5 _ _ _ _ _ _ _ _ _ hr.u1 (pv 0) (@aAi _ _ _ _) (@aAj _ _ _ _ _ _ _ _ aAs (@aB2 _ _ _ _ _ _ hr.u1 (pv 0) (@aAi _ _ _ _) (fun _ _=>rfl)) (@aAb _ _ _ _)) rfl)))))),?_⟩
  obtain ⟨⟨vi,u,hd,⟨⟨li,qa,ls,ys,rfl,hli,hqa,hls,prs,f1,f2,n1,n2,n3,n4,n5⟩,inm,inw,ind',ile,iwf,ipb⟩⟩,ne,⟨fd,ff,fk⟩,⟨xs,hxs,px⟩,⟨ks,hks,pk⟩,wf,nm,le⟩:=st
  have hxl:=Paired.length px
  have hkl:=Paired.length pk
  rw [List.length_reverse] at hkl
  have le':lnN gs+(x.2.2.length+1)<=n:=le
  have lnl:=aRp gs
  have hyl:=Paired.length prs
  have hel:(aFv [] gs).length<=55:=by
   have:=aNg gs []
   rw [List.length_nil] at this
   omega
  have rpos:1<=x.2.2.length:=List.length_pos_iff.mpr hne
  have hdl:∀ {b:Addr} {zs:List V},H b=some (.lst zs)->b≠d:=fun h e=>by rw [e,hd] at h; cases h
  walk_at "go"
  refine aDl (.inl hd) aD8 ?_
  refine aZ1 hli rfl ?_
  walk_at "go"
  refine aDl (.inl hd) aEp ?_
  walk_at "go"
  refine ⟨ls,_,rfl,.inl ⟨SqL.of hls,fun p1 hp1=>?_⟩⟩
  have t1:=aAm.new (o:=.tup ys) hp1
  have g1:=aAd (H:=H) (a:=p1) (o:=.tup ys)
  generalize L2.upd H p1 (.tup ys)=H1 at t1 g1 ⊢
  walk_at "go"
  refine aBr fun p2 hp2=>?_
  have t2:=aAm.new (o:=.tup [.str "piece",.str x.1,.ref qa,.ref p1]) hp2
  have g2:=aAd (H:=H1) (a:=p2) (o:=.tup [.str "piece",.str x.1,.ref qa,.ref p1])
  generalize L2.upd H1 p2 (.tup [.str "piece",.str x.1,.ref qa,.ref p1])=H2 at t2 g2 ⊢
  have t12:=t1.trans t2
  have pq:aFz H2 (.ref p2) x:=⟨p2,qa,p1,ys,rfl,g2,t12 _ _ hqa,t2 _ _ g1,Pd.imp prs fun v b f=>f.tk t12.tk⟩
  walk_at "go"
  refine aJ3 (t12 _ _ hxs) (by omega) ?_
  have k3:Kp lf H2 (L2.upd H2 lf (.lst (xs++[.ref p2]))):=Kp.upd
  have tk3:=TK.lst (o:=.lst (xs++[.ref p2])) (t12 _ _ hxs)
  have g3:=aAd (H:=H2) (a:=lf) (o:=.lst (xs++[.ref p2]))
  generalize L2.upd H2 lf (.lst (xs++[.ref p2]))=H3 at k3 tk3 g3 ⊢
  have hd3:=k3 _ _ (hdl hxs).symm (t12 _ _ hd)
  have hks3:=k3 _ _ ne.symm (t12 _ _ hks)
  have hqa3:=tk3 _ _ (t12 _ _ hqa)
  walk_at "go"
  refine aDl (.inl hd3) aGy ?_
  walk_at "go"
  refine aBr fun p4 hp4=>?_
  have t4:=aAm.new (o:=.tup [.str x.1,.int ((x.2.1.map V.str).length:Int)]) hp4
  have g4:=aAd (H:=H3) (a:=p4) (o:=.tup [.str x.1,.int ((x.2.1.map V.str).length:Int)])
  generalize L2.upd H3 p4 (.tup [.str x.1,.int ((x.2.1.map V.str).length:Int)])=H4 at t4 g4 ⊢
  rw [List.length_map] at g4
  walk_at "go"
  refine aJ3 (t4 _ _ hks3) (by omega) ?_
  have k5:Kp lk H4 (L2.upd H4 lk (.lst (ks++[.ref p4]))):=Kp.upd
  have tk5:=TK.lst (o:=.lst (ks++[.ref p4])) (t4 _ _ hks3)
  have g5:=aAd (H:=H4) (a:=lk) (o:=.lst (ks++[.ref p4]))
  generalize L2.upd H4 lk (.lst (ks++[.ref p4]))=H5 at k5 tk5 g5 ⊢
  have hd5:=k5 _ _ (hdl hks).symm (t4 _ _ hd3)
  walk_at "go"
  refine aMx hd5 (by show 4<=1000; decide) ?_
  rw [aUr]
  have k6:Kp d H5 (L2.upd H5 d (.dK (stK lf lk .non u))):=Kp.upd
  have tk6:=TK.dic (o:=.dK (stK lf lk .non u)) hd5
  have g6:=aAd (H:=H5) (a:=d) (o:=.dK (stK lf lk .non u))
  generalize L2.upd H5 d (.dK (stK lf lk .non u))=H6 at k6 tk6 g6 ⊢
  walk_at "go"
  refine aDl (.inl g6) aG9 ?_
  walk_at "go"
  refine aMx g6 (by show 4<=1000; decide) ?_
  rw [aNu]
  have k7:Kp d H6 (L2.upd H6 d (.dK (stK lf lk .non (u+6)))):=Kp.upd
  have tk7:=TK.dic (o:=.dK (stK lf lk .non (u+6))) g6
  have g7:=aAd (H:=H6) (a:=d) (o:=.dK (stK lf lk .non (u+6)))
  generalize L2.upd H6 d (.dK (stK lf lk .non (u+6)))=H7 at k7 tk7 g7 ⊢
  walk_at "go"
  have tk37:=((t4.tk.trans tk5).trans tk6).trans tk7
  have tk27:=tk3.trans tk37
  have hlf7:H7 lf=some (.lst (xs++[.ref p2])):=k7 _ _ (hdl hxs) (k6 _ _ (hdl hxs) (k5 _ _ ne (t4 _ _ g3)))
  have hlk7:H7 lk=some (.lst (ks++[.ref p4])):=k7 _ _ (hdl hks) (k6 _ _ (hdl hks) g5)
  refine q H7 (fun b o h=>?_) ⟨⟨_,_,g7,rfl⟩,ne,⟨fd,ff,fk⟩,⟨_,hlf7,?_⟩,?_,?_,?_,?_⟩
  ·have b1:=aAg h fd
   have b2:=aAg h ff
   have b3:=aAg h fk
   exact k7 _ _ b1 (k6 _ _ b1 (k5 _ _ b3 (t4 _ _ (k3 _ _ b2 (t12 _ _ (s0 _ _ h))))))
  ·exact Pd.snoc (Pd.imp px fun v b f=>(f.tk t12.tk).tk tk27) (show aEw H7 (.ref p2) (.piece x) from pq.tk tk27)
  ·rw [aFu]
   refine ⟨_,hlk7,?_⟩
   rw [show (aFv (aFv [] gs) [.piece x]).reverse=(aFv [] gs).reverse++[x] from List.reverse_cons]
   exact Pd.snoc (Pd.imp pk fun v b ⟨a,e,f⟩=>⟨a,e,tk37 _ _ (tk3 _ _ (t12 _ _ f))⟩) ⟨p4,rfl,((tk5.trans tk6).trans tk7) _ _ g4⟩
  ·exact (aGw gs [] (.piece x)).mpr ⟨wf,⟨iwf,hne,by omega,ind',⟨ile.1,ile.2,ipb⟩,inw⟩,trivial⟩
  ·rw [aFu]
   intro p hp
   rcases List.mem_cons.mp (show p∈x::aFv [] gs from hp) with rfl | hp
   ·exact inm
   ·exact nm p hp
  ·rw [aKf]
   show lnN gs+(0+x.2.2.length+2)+0<=_
   omega
theorem aLl (T:Bl mg) (d:Df K mg "_law_time_text" aE2 ["_law_time_here"]  ) (W:XmS mg xt x0 x1 x4 x5 x10) (R_NoText:XrS K xt x0 x1 x4 x5 x10 x5 5):Okf P w K mg base (k+1) "_law_time_text" ["_law_time_here"] aJj:=by
 refine Okf.of d aLc (fun vs H Q E h=>?_) (fun f cdv A outer s H vs Q E hr h=>?_)
 ·obtain ⟨v,t,rfl,_⟩:=h
  rfl
 ·obtain ⟨v,t,rfl,⟨p,rfl,hp⟩,ht,q⟩:=h
  refine ⟨_,(@aAe _ _ _ _ _ (@aA6 _ _ _ _ _ _ _ _ (@aAl _ _ _ _ _ _ _ _ (aA0 hr.units) (@aAr _ _ _ _ _ _ _ aAt (pv 0) (@aAb _ _ _ _) (fun _ _=>rfl)) (@aAb _ _ _ _) (aAo _)) (@aAf _ _ _ (@aAq _ _ _ _ (@aA8 _ _ _ _ _ _ _ _ _ aSs rfl T.z_str aMb (@aAa _ _ _ _ _ (@aAr _ _ _ _ _ _ _ aAt (pv 0) (@aAb _ _ _ _) (fun _ _=>rfl)) (@aAc _) (by rfl)) (by decide) (by decide) (by rfl) (by rfl)))) (@aAu _)) (@aAf _ _ _ (@aAq _ _ _ _ (@aAj _ _ _ _ _ _ _ _ aAs (@aAj _ _ _ _ _ _ _ _ aAs (@aA8 _ _ _ _ _ _ _ _ _ aSs rfl T.z_str aMb (@aAa _ _ _ _ _ (@aAr _ _ _ _ _ _ _ aAt (pv 0) (@aAb _ _ _ _) (fun _ _=>rfl)) (@aAc _) (by rfl)) (by decide) (by decide) (by rfl) (by rfl)) (@aAi _ _ _ _)) (@aA8 _ _ _ _ _ _ _ _ _ aSs rfl T.z_str aMb (@aAa _ _ _ _ _ (@aAr _ _ _ _ _ _ _ aAt (pv 0) (@aAb _ _ _ _) (fun _ _=>rfl)) (@aAc _) (by rfl)) (by decide) (by decide) (by rfl) (by rfl)))))),?_⟩
  have hn:=ht.num
  have hd:=ht.den
  have b1:(Str.ofString (toString t.num)).length<=12:=(aKb (by omega:0<=t.num) hn.2).2
  have b2:(Str.ofString (toString (t.den:Int))).length<=12:=(aKb (by omega:0<=(t.den:Int)) hd.2).2
  have b3:(Str.ofString "/").length=1:=by decide +kernel
  have es:Str.ofString "/"=⟨#[47]⟩:=by decide +kernel
  walk_at "go"
  refine i_d (fun c1=>?_) (fun c1=>?_)
  ·walk_at "go"
   refine ⟨t.num,rfl,by omega,?_⟩
   walk_at "go"
   rw [show tmS t=aPx t.num from if_pos (by omega)] at q
   exact q
  walk_at "go"
  refine ⟨t.num,rfl,by omega,?_⟩
  refine aEz (by omega) ?_
  walk_at "go"
  refine ⟨(t.den:Int),rfl,by omega,?_⟩
  refine aEz (by rw [aCc]; omega) ?_
  walk_at "go"
  rw [show tmS t=aPx t.num++⟨#[47]⟩++aPx (t.den:Int) from if_neg (by omega)] at q
  rw [es]
  exact q
set_option maxHeartbeats 0 in
theorem aHx (T:Bl mg) (d:Df K mg "_law_row_texts" aDy ["_law_row_here"]) (W:XmS mg xt x0 x1 x4 x5 x10) (R_NoText:XrS K xt x0 x1 x4 x5 x10 x5 5) (o_time_text:Okf P w K mg base k "_law_time_text" ["_law_time_here"] aJj):Okf P w K mg base (k+1) "_law_row_texts" ["_law_row_here"] (aNy K):=by
 refine Okf.of d aCx (fun vs H Q E h=>?_) (fun f cdv A outer s H vs Q E hr h=>?_)
 ·obtain ⟨v,r,E,rfl,_⟩:=h
  rfl
 ·obtain ⟨v,r,E,rfl,hro,hw,hE,q⟩:=h
  refine ⟨_,(@aAe _ _ _ _ _ (@aA6 _ _ _ _ _ _ _ _ (@aAl _ _ _ _ _ _ _ _ (aA0 hr.units) (@aAr _ _ _ _ _ _ _ aAt (pv 0) (@aAb _ _ _ _) (fun _ _=>rfl)) (@aAi _ _ _ _) (aAo _)) (@aAf _ _ _ (@aAq _ _ _ _ (@aA4 _ _ _ _ (@aAa _ _ _ _ _ (@aAj _ _ _ _ _ _ _ _ aAs (@aAj _ _ _ _ _ _ _ _ aAs (@aB4 _ _ _ _ _ _ _ _ _ _ _ _ PySem.F.plainAttrs_str PySem.F.slot_str_join PySem.F.type_str_join aD3 (@aAi _ _ _ _) (@aAa _ _ _ _ _ (@aAy _ _ _ _ _ _ _ _ _ _ aBv (pv 0) (@aBi _) (@aBb _ _ _ (@aAb _ _ _ _))) (@aAc _) (by rfl)) (by rfl) (by rfl) (by rfl) (by rfl) (by rfl)) (@aAi _ _ _ _)) (@aAn _ _ _ _ _ _ _ _ _ _ o_time_text hr rfl (@aAa _ _ _ _ _ (@aAr _ _ _ _ _ _ _ aAt (pv 0) (@aAb _ _ _ _) (fun _ _=>rfl)) (@aAc _) (by rfl)) (by decide) (by rfl) (by rfl))) (@aAc _) (by rfl))))) (@aAu _)) (@aAe _ _ _ _ _ (@aA6 _ _ _ _ _ _ _ _ (@aAl _ _ _ _ _ _ _ _ (aA0 hr.units) (@aAr _ _ _ _ _ _ _ aAt (pv 0) (@aAb _ _ _ _) (fun _ _=>rfl)) (@aAi _ _ _ _) (aAo _)) (@aAf _ _ _ (@aAq _ _ _ _ (@aA4 _ _ _ _ (@aAa _ _ _ _ _ (@aB4 _ _ _ _ _ _ _ _ _ _ _ _ PySem.F.plainAttrs_str PySem.F.slot_str_join PySem.F.type_str_join aD3 (@aAi _ _ _ _) (@aAa _ _ _ _ _ (@aAj _ _ _ _ _ _ _ _ aAs (@aAy _ _ _ _ _ _ _ _ _ _ aBv (pv 0) (@aBi _) (@aBb _ _ _ (@aAb _ _ _ _))) (@aAr _ _ _ _ _ _ _ aAt (pv 0) (@aAb _ _ _ _) (fun _ _=>rfl))) (@aAc _) (by rfl)) (by rfl) (by rfl) (by rfl) (by rfl) (by rfl)) (@aAc _) (by rfl))))) (@aAu _)) (@aAe _ _ _ _ _ (@aA6 _ _ _ _ _ _ _ _ (@aAl _ _ _ _ _ _ _ _ (aD5 hr.units) (@aAr _ _ _ _ _ _ _ aAt (pv 0) (@aAb _ _ _ _) (fun _ _=>rfl)) (@aAi _ _ _ _) (aAo _)) (@aAf _ _ _ (@aAq _ _ _ _ (@aA4 _ _ _ _ (@aAa _ _ _ _ _ (@aB4 _ _ _ _ _ _ _ _ _ _ _ _ PySem.F.plainAttrs_str PySem.F.slot_str_join PySem.F.type_str_join aD3 (@aAi _ _ _ _) (@aAa _ _ _ _ _ (@aAj _ _ _ _ _ _ _ _ aAs (@aBy _ _ _ _ _ (@aAa _ _ _ _ _ (@aAr _ _ _ _ _ _ _ aAt (pv 0) (@aAb _ _ _ _) (fun _ _=>rfl)) (@aAa _ _ _ _ _ (@aAn _ _ _ _ _ _ _ _ _ _ o_time_text hr rfl (@aAa _ _ _ _ _ (@aAr _ _ _ _ _ _ _ aAt (pv 0) (@aAb _ _ _ _) (fun _ _=>rfl)) (@aAc _) (by rfl)) (by decide) (by rfl) (by rfl)) (@aAc _) (by rfl)) (by rfl))) (@aAr _ _ _ _ _ _ _ aAt (pv 0) (@aAb _ _ _ _) (fun _ _=>rfl))) (@aAc _) (by rfl)) (by rfl) (by rfl) (by rfl) (by rfl) (by rfl)) (@aAc _) (by rfl))))) (@aAu _)) (@aAe _ _ _ _ _ (@aJ6 _ _) (@aAe _ _ _ _ _ (@aJ6 _ _) (@aAf _ _ _ (@aJ6 _ _))))))),?_⟩
  have es:(Str.ofString " ").length=1:=by decide +kernel
  have cap:∀ {ys:List Str},ys.length<=40->(∀ s∈ys,WdS s)->(ys.map (·.length)).sum+ys.length * (Str.ofString " ").length<=16777216:=fun {ys} hl hs=>by
   have h1:=aF0 fun s h=>(hs s h).2.2
   have h2:ys.length * 100<=40 * 100:=Nat.mul_le_mul_right _ hl
   rw [es]
   omega
  cases r with
  | plain r =>
   cases r with
   | run a b t =>
    obtain ⟨p,u,rfl,hp,hu⟩:=hro
    obtain ⟨h1,h2,h3⟩:=(show aDb a/\aDb b/\aNo t from hw)
    have lok:=aEy hE (r:=.plain (.run a b t)) hw
    have c1:=cap (ys:=["run",a,b]) (by show 3<=40; decide) (fun s hs=>lok.2.1 s (by
     show s∈[("run":Str),a,b]++[tmS t]
     exact List.mem_append_left _ hs))
    have jl:(Str.join (Str.ofString " ") ["run",a,b]).length<=10000:=aKj (ws:=["run",a,b]) (fun s hs=>(lok.2.1 s (by
     show s∈[("run":Str),a,b]++[tmS t]
     exact List.mem_append_left _ hs)).2.2) (by show 3<=50; decide)
    have tl:=(aS2 h3).2.2
    walk_at "go"
    refine aOb hp fun l1 hl1=>?_
    have t1:=aAm.new (o:=.tup [.str "run",.str a,.str b]) hl1
    have g1:=aAd (H:=H) (a:=l1) (o:=.tup [.str "run",.str a,.str b])
    generalize L2.upd H l1 (.tup [.str "run",.str a,.str b])=H1 at t1 g1 ⊢
    have hp1:=t1 _ _ hp
    walk_at "go"
    refine ⟨_,l1,["run",a,b],rfl,rfl,g1,c1,?_⟩
    refine aEz (by omega) ?_
    walk_at "go"
    refine ⟨u,t,rfl,hu.tk t1.tk,h3,?_⟩
    refine aEz (by rw [aCc]; omega) ?_
    walk_at "go"
    refine aA2 fun l2 hl2=>?_
    rw [aOc a b (tmS t)]
    walk_at "go"
    exact q l2 _ (t1.free hl2) (t1.trans (aAm.new hl2)) aAd
   | path k t ps =>
    obtain ⟨p,u,z,rfl,hp,hu,hz⟩:=hro
    have lok:=aEy hE (r:=.plain (.path k t ps)) hw
    obtain ⟨h1,h2,h3,h4,_⟩:=hw
    have c1:=cap (ys:=aFy.nm k::tmS t::ps) (by rw [List.length_cons,List.length_cons]; omega) (fun s hs=>lok.2.1 s hs)
    cases k <;>
    ·walk_at "go"
     refine ⟨u,t,rfl,hu,h2,?_⟩
     walk_at "go"
     refine aBr fun l1 hl1=>?_
     walk_at "go"
     refine aSu aAd (aMk hl1 hz) (by rw [List.length_map]; show 2+_<=_; omega) (List.cons_ne_nil _ _) (fun e=>by rw [List.map_eq_nil_iff] at e; rw [e] at h3; exact absurd h3 (by decide)) fun l2 hl2=>?_
     walk_at "go"
     refine ⟨_,l2,_::tmS t::ps,rfl,rfl,aAd,c1,?_⟩
     walk_at "go"
     refine aA2 fun l3 hl3=>?_
     walk_at "go"
     exact q l3 _ (((aAm.new hl1).trans (aAm.new hl2)).free hl3) (((aAm.new hl1).trans (aAm.new hl2)).trans (aAm.new hl3)) aAd
  | put nm cl as =>
   have lok:=aEy hE (r:=.put nm cl as) hw
   obtain ⟨p,q',rfl,hp,hq⟩:=hro
   obtain ⟨w1,w2,w3,x,hx,rfl,wl⟩:=hw
   have c1:=cap (ys:="put"::x.1::cl::as) (by rw [List.length_cons,List.length_cons,List.length_cons]; omega) (fun s hs=>lok.2.1 s hs)
   walk_at "go"
   refine aOb hp fun l1 hl1=>?_
   have t1:=aAm.new (o:=.tup [.str "put",.str x.1,.str cl]) hl1
   have g1:=aAd (H:=H) (a:=l1) (o:=.tup [.str "put",.str x.1,.str cl])
   generalize L2.upd H l1 (.tup [.str "put",.str x.1,.str cl])=H1 at t1 g1 ⊢
   have hp1:=t1 _ _ hp
   walk_at "go"
   have has:as≠[]:=fun e=>by rw [e] at w3; exact absurd w3.1 (by decide)
   refine aSu g1 (t1 _ _ hq) (by rw [List.length_map]; show 3+_<=_; omega) (List.cons_ne_nil _ _) (fun e=>has (List.map_eq_nil_iff.mp e)) fun l2 hl2=>?_
   have t2:=t1.trans (aAm.new (o:=.tup ([.str "put",.str x.1,.str cl]++as.map V.str)) hl2)
   walk_at "go"
   refine ⟨_,l2,"put"::x.1::cl::as,rfl,rfl,aAd,c1,?_⟩
   walk_at "go"
   refine aA2 fun l3 hl3=>?_
   walk_at "go"
   exact q l3 _ (t2.free hl3) (t2.trans (aAm.new hl3)) aAd
set_option maxHeartbeats 0 in
theorem aLm (T:Bl mg) (d:Df K mg "_law_row_texts" aDy ["_law_row_here"]  ) (W:XmS mg xt x0 x1 x4 x5 x10) (R_NoText:XrS K xt x0 x1 x4 x5 x10 x5 5) (o_row_texts:Okf P w K mg base k "_law_row_texts" ["_law_row_here"] (aNy K)) (o_time_text:Okf P w K mg base k "_law_time_text" ["_law_time_here"] aJj):Okf P w K mg base (k+1) "_law_row_texts" ["_law_row_here"] (aMl K):=by
 refine Okf.of d aCx (fun vs H Q E h=>?_) (fun f cdv A outer s H vs Q E hr h=>?_)
 ·obtain ⟨v,g,E,rfl,_⟩:=h
  rfl
 ·obtain ⟨v,g,E,rfl,hg,hw,hE,q⟩:=h
  refine ⟨_,(@aAe _ _ _ _ _ (@aA6 _ _ _ _ _ _ _ _ (@aAl _ _ _ _ _ _ _ _ (aA0 hr.units) (@aAr _ _ _ _ _ _ _ aAt (pv 0) (@aAb _ _ _ _) (fun _ _=>rfl)) (@aAi _ _ _ _) (aAo _)) (@aAf _ _ _ (@aAq _ _ _ _ (@aA4 _ _ _ _ (@aAa _ _ _ _ _ (@aAj _ _ _ _ _ _ _ _ aAs (@aAj _ _ _ _ _ _ _ _ aAs (@aB4 _ _ _ _ _ _ _ _ _ _ _ _ PySem.F.plainAttrs_str PySem.F.slot_str_join PySem.F.type_str_join aD3 (@aAi _ _ _ _) (@aAa _ _ _ _ _ (@aAy _ _ _ _ _ _ _ _ _ _ aBv (pv 0) (@aBi _) (@aBb _ _ _ (@aAb _ _ _ _))) (@aAc _) (by rfl)) (by rfl) (by rfl) (by rfl) (by rfl) (by rfl)) (@aAi _ _ _ _)) (@aAn _ _ _ _ _ _ _ _ _ _ o_time_text hr rfl (@aAa _ _ _ _ _ (@aAr _ _ _ _ _ _ _ aAt (pv 0) (@aAb _ _ _ _) (fun _ _=>rfl)) (@aAc _) (by rfl)) (by decide) (by rfl) (by rfl))) (@aAc _) (by rfl))))) (@aAu _)) (@aAe _ _ _ _ _ (@aA6 _ _ _ _ _ _ _ _ (@aAl _ _ _ _ _ _ _ _ (aA0 hr.units) (@aAr _ _ _ _ _ _ _ aAt (pv 0) (@aAb _ _ _ _) (fun _ _=>rfl)) (@aAi _ _ _ _) (aAo _)) (@aAf _ _ _ (@aAq _ _ _ _ (@aA4 _ _ _ _ (@aAa _ _ _ _ _ (@aB4 _ _ _ _ _ _ _ _ _ _ _ _ PySem.F.plainAttrs_str PySem.F.slot_str_join PySem.F.type_str_join aD3 (@aAi _ _ _ _) (@aAa _ _ _ _ _ (@aAj _ _ _ _ _ _ _ _ aAs (@aAy _ _ _ _ _ _ _ _ _ _ aBv (pv 0) (@aBi _) (@aBb _ _ _ (@aAb _ _ _ _))) (@aAr _ _ _ _ _ _ _ aAt (pv 0) (@aAb _ _ _ _) (fun _ _=>rfl))) (@aAc _) (by rfl)) (by rfl) (by rfl) (by rfl) (by rfl) (by rfl)) (@aAc _) (by rfl))))) (@aAu _)) (@aAe _ _ _ _ _ (@aA6 _ _ _ _ _ _ _ _ (@aAl _ _ _ _ _ _ _ _ (aD5 hr.units) (@aAr _ _ _ _ _ _ _ aAt (pv 0) (@aAb _ _ _ _) (fun _ _=>rfl)) (@aAi _ _ _ _) (aAo _)) (@aAf _ _ _ (@aAq _ _ _ _ (@aA4 _ _ _ _ (@aAa _ _ _ _ _ (@aB4 _ _ _ _ _ _ _ _ _ _ _ _ PySem.F.plainAttrs_str PySem.F.slot_str_join PySem.F.type_str_join aD3 (@aAi _ _ _ _) (@aAa _ _ _ _ _ (@aAj _ _ _ _ _ _ _ _ aAs (@aBy _ _ _ _ _ (@aAa _ _ _ _ _ (@aAr _ _ _ _ _ _ _ aAt (pv 0) (@aAb _ _ _ _) (fun _ _=>rfl)) (@aAa _ _ _ _ _ (@aAn _ _ _ _ _ _ _ _ _ _ o_time_text hr rfl (@aAa _ _ _ _ _ (@aAr _ _ _ _ _ _ _ aAt (pv 0) (@aAb _ _ _ _) (fun _ _=>rfl)) (@aAc _) (by rfl)) (by decide) (by rfl) (by rfl)) (@aAc _) (by rfl)) (by rfl))) (@aAr _ _ _ _ _ _ _ aAt (pv 0) (@aAb _ _ _ _) (fun _ _=>rfl))) (@aAc _) (by rfl)) (by rfl) (by rfl) (by rfl) (by rfl) (by rfl)) (@aAc _) (by rfl))))) (@aAu _)) (@aAe _ _ _ _ _ (@aAp _ _ (i:=1) _ _ _ _ aCx.nd rfl (by first | exact Or.inl rfl | exact Or.inr rfl) (@aA4 _ _ _ _ (@aAa _ _ _ _ _ (@aB4 _ _ _ _ _ _ _ _ _ _ _ _ PySem.F.plainAttrs_str PySem.F.slot_str_join PySem.F.type_str_join aD3 (@aAi _ _ _ _) (@aAa _ _ _ _ _ (@aAj _ _ _ _ _ _ _ _ aAs (@aAy _ _ _ _ _ _ _ _ _ _ aBv (pv 0) (@aBi _) (@aBb _ _ _ (@aAb _ _ _ _))) (@aAr _ _ _ _ _ _ _ aAt (pv 0) (@aAb _ _ _ _) (fun _ _=>rfl))) (@aAc _) (by rfl)) (by rfl) (by rfl) (by rfl) (by rfl) (by rfl)) (@aAc _) (by rfl))) (by rfl) (by first | exact .inl rfl | exact .inr rfl | assumption)) (@aAe _ _ _ _ _ (@aDq _ _ _ _ _ _ _ _ PassesOwn.never rfl (@bAw _ _ _ _ (@aAr _ _ _ _ _ _ _ aAt (pv 0) (@aAb _ _ _ _) (fun _ _=>rfl))) (@aAx _ _ (i:=2) _ aCx.nd rfl (by first | exact Or.inl rfl | exact Or.inr rfl) (by first | exact .inl rfl | exact .inr rfl | assumption)) (@aAf _ _ _ (@aAp _ _ (i:=1) _ _ _ _ aCx.nd rfl (by first | exact Or.inl rfl | exact Or.inr rfl) (@aAj _ _ _ _ _ _ _ _ aAs (pv 1) (@aAn _ _ _ _ _ _ _ _ _ _ o_row_texts hr rfl (@aAa _ _ _ _ _ (pv 2) (@aAc _) (by rfl)) (by decide) (by rfl) (by rfl))) (by rfl) (by first | exact .inl rfl | exact .inr rfl | assumption))) (by intro _; rfl)) (@aAf _ _ _ (@aAq _ _ _ _ (@aAj _ _ _ _ _ _ _ _ aAs (pv 1) (@aA4 _ _ _ _ (@aAa _ _ _ _ _ (@aAi _ _ _ _) (@aAc _) (by rfl))))))))))),?_⟩
  have es:(Str.ofString " ").length=1:=by decide +kernel
  have cap:∀ {ys:List Str},ys.length<=40->(∀ s∈ys,WdS s)->(ys.map (·.length)).sum+ys.length * (Str.ofString " ").length<=16777216:=fun {ys} hl hs=>by
   have h1:=aF0 fun s h=>(hs s h).2.2
   have h2:ys.length * 100<=40 * 100:=Nat.mul_le_mul_right _ hl
   rw [es]
   omega
  cases g with
  | one r =>
   replace hw:=hw.1
   have hro:aBp H v r:=hg
   cases r with
   | plain r =>
    cases r with
    | run a b t =>
     obtain ⟨p,u,rfl,hp,hu⟩:=hro
     obtain ⟨h1,h2,h3⟩:=(show aDb a/\aDb b/\aNo t from hw)
     have lok:=aEy hE (r:=.plain (.run a b t)) hw
     have c1:=cap (ys:=["run",a,b]) (by show 3<=40; decide) (fun s hs=>lok.2.1 s (by
      show s∈[("run":Str),a,b]++[tmS t]
      exact List.mem_append_left _ hs))
     have jl:(Str.join (Str.ofString " ") ["run",a,b]).length<=10000:=aKj (ws:=["run",a,b]) (fun s hs=>(lok.2.1 s (by
      show s∈[("run":Str),a,b]++[tmS t]
      exact List.mem_append_left _ hs)).2.2) (by show 3<=50; decide)
     have tl:=(aS2 h3).2.2
     walk_at "go"
     refine aOb hp fun l1 hl1=>?_
     have t1:=aAm.new (o:=.tup [.str "run",.str a,.str b]) hl1
     have g1:=aAd (H:=H) (a:=l1) (o:=.tup [.str "run",.str a,.str b])
     generalize L2.upd H l1 (.tup [.str "run",.str a,.str b])=H1 at t1 g1 ⊢
     have hp1:=t1 _ _ hp
     walk_at "go"
     refine ⟨_,l1,["run",a,b],rfl,rfl,g1,c1,?_⟩
     refine aEz (by omega) ?_
     walk_at "go"
     refine ⟨u,t,rfl,hu.tk t1.tk,h3,?_⟩
     refine aEz (by rw [aCc]; omega) ?_
     walk_at "go"
     refine aA2 fun l2 hl2=>?_
     rw [aOc a b (tmS t)]
     walk_at "go"
     exact q l2 _ (t1.free hl2) (t1.trans (aAm.new hl2)) aAd
    | path k t ps =>
     obtain ⟨p,u,z,rfl,hp,hu,hz⟩:=hro
     have lok:=aEy hE (r:=.plain (.path k t ps)) hw
     obtain ⟨h1,h2,h3,h4,_⟩:=hw
     have c1:=cap (ys:=aFy.nm k::tmS t::ps) (by rw [List.length_cons,List.length_cons]; omega) (fun s hs=>lok.2.1 s hs)
     cases k <;>
     ·walk_at "go"
      refine ⟨u,t,rfl,hu,h2,?_⟩
      walk_at "go"
      refine aBr fun l1 hl1=>?_
      walk_at "go"
      refine aSu aAd (aMk hl1 hz) (by rw [List.length_map]; show 2+_<=_; omega) (List.cons_ne_nil _ _) (fun e=>by rw [List.map_eq_nil_iff] at e; rw [e] at h3; exact absurd h3 (by decide)) fun l2 hl2=>?_
      walk_at "go"
      refine ⟨_,l2,_::tmS t::ps,rfl,rfl,aAd,c1,?_⟩
      walk_at "go"
      refine aA2 fun l3 hl3=>?_
      walk_at "go"
      exact q l3 _ (((aAm.new hl1).trans (aAm.new hl2)).free hl3) (((aAm.new hl1).trans (aAm.new hl2)).trans (aAm.new hl3)) aAd
   | put nm cl as =>
    have lok:=aEy hE (r:=.put nm cl as) hw
    obtain ⟨p,q',rfl,hp,hq⟩:=hro
    obtain ⟨w1,w2,w3,x,hx,rfl,wl⟩:=hw
    have c1:=cap (ys:="put"::x.1::cl::as) (by rw [List.length_cons,List.length_cons,List.length_cons]; omega) (fun s hs=>lok.2.1 s hs)
    walk_at "go"
    refine aOb hp fun l1 hl1=>?_
    have t1:=aAm.new (o:=.tup [.str "put",.str x.1,.str cl]) hl1
    have g1:=aAd (H:=H) (a:=l1) (o:=.tup [.str "put",.str x.1,.str cl])
    generalize L2.upd H l1 (.tup [.str "put",.str x.1,.str cl])=H1 at t1 g1 ⊢
    have hp1:=t1 _ _ hp
    walk_at "go"
    have has:as≠[]:=fun e=>by rw [e] at w3; exact absurd w3.1 (by decide)
    refine aSu g1 (t1 _ _ hq) (by rw [List.length_map]; show 3+_<=_; omega) (List.cons_ne_nil _ _) (fun e=>has (List.map_eq_nil_iff.mp e)) fun l2 hl2=>?_
    have t2:=t1.trans (aAm.new (o:=.tup ([.str "put",.str x.1,.str cl]++as.map V.str)) hl2)
    walk_at "go"
    refine ⟨_,l2,"put"::x.1::cl::as,rfl,rfl,aAd,c1,?_⟩
    walk_at "go"
    refine aA2 fun l3 hl3=>?_
    walk_at "go"
    exact q l3 _ (t2.free hl3) (t2.trans (aAm.new hl3)) aAd
  | piece x =>
   have lok:=aFp (E:=E) hE hw
   obtain ⟨p,q',z,xs,rfl,hp,hq,hz,px⟩:=hg
   obtain ⟨w1,w2,w3,w4,⟨w5,w6,w7⟩,w8⟩:=hw.1
   have hxl:=Paired.length px
   have c1:=cap (ys:="piece"::x.1::x.2.1) (by rw [List.length_cons,List.length_cons]; omega) (fun s hs=>(lok ("piece"::x.1::x.2.1) (List.mem_append_left _ (List.mem_cons_self ..))).2.1 s hs)
   walk_at "go"
   refine aYx hp fun l1 hl1=>?_
   have t1:=aAm.new (o:=.tup [.str "piece",.str x.1]) hl1
   have g1:=aAd (H:=H) (a:=l1) (o:=.tup [.str "piece",.str x.1])
   generalize L2.upd H l1 (.tup [.str "piece",.str x.1])=H1 at t1 g1 ⊢
   have hp1:=t1 _ _ hp
   walk_at "go"
   have has:x.2.1≠[]:=fun e=>by rw [e] at w5; exact absurd w5 (by decide)
   refine aSu g1 (t1 _ _ hq) (by rw [List.length_map]; show 2+_<=_; omega) (List.cons_ne_nil _ _) (fun e=>has (List.map_eq_nil_iff.mp e)) fun l2 hl2=>?_
   have t2:=t1.trans (aAm.new (o:=.tup ([.str "piece",.str x.1]++x.2.1.map V.str)) hl2)
   have g2:=aAd (H:=H1) (a:=l2) (o:=.tup ([.str "piece",.str x.1]++x.2.1.map V.str))
   generalize L2.upd H1 l2 (.tup ([.str "piece",.str x.1]++x.2.1.map V.str))=H2 at t2 g2 ⊢
   have hp2:=t2 _ _ hp
   walk_at "go"
   refine ⟨_,l2,"piece"::x.1::x.2.1,rfl,rfl,g2,c1,?_⟩
   walk_at "go"
   refine aA2 fun l3 hl3=>?_
   have t3:=t2.trans (aAm.new (o:=.lst [lnV ("piece"::x.1::x.2.1)]) hl3)
   have g3:=aAd (H:=H2) (a:=l3) (o:=.lst [lnV ("piece"::x.1::x.2.1)])
   change (fun H3=>_) (L2.upd H2 l3 (.lst [lnV ("piece"::x.1::x.2.1)]))
   generalize L2.upd H2 l3 (.lst [lnV ("piece"::x.1::x.2.1)])=H3 at t3 g3 ⊢
   have hp3:=t3 _ _ hp
   walk_at "go"
   refine aV4 (SqT.of (t3 _ _ hz)) ?_
   refine aWc (xs:=xs) (fun i σ G=>∃ o2 lf,σ=[some (.ref p),some (.ref lf),o2]/\aAm H G/\H lf=none/\G lf=some (.lst (((("piece":Str)::x.1::x.2.1)::(x.2.2.take i).map aKw).map lnV))) ⟨_,_,rfl,t3,t2.free hl3,g3⟩ ?_ ?_ ?_
   ·rintro i σ G _ ⟨o2,lf,rfl,sG,_⟩
    exact SqT.of (sG _ _ hz)
   ·rintro i y σ G hy ⟨o2,lf,rfl,sG,hlf,glf⟩
    obtain ⟨r,hr0,rq⟩:=Paired.at px hy
    have hil:i < x.2.2.length:=(List.getElem?_eq_some_iff.mp hr0).1
    walk_at "go"
    refine ⟨y,r,E,rfl,aBp.tk rq sG.tk,w1 r (List.mem_of_getElem? hr0),hE,fun l4 G4 hl4 t4 g4=>?_⟩
    refine aUj (t4 _ _ glf) g4 (by simp; omega) fun l5 hl5=>?_
    have t5:=sG.trans t4
    walk_at "go"
    refine ⟨_,l5,rfl,t5.trans (aAm.new hl5),t5.free hl5,?_⟩
    rw [aAd,List.take_add_one,hr0]
    simp
   rintro σ G ⟨o2,lf,rfl,sG,hlf,glf⟩
   rw [hxl,List.take_length] at glf
   walk_at "go"
   refine aA2 fun l4 hl4=>?_
   have t4:=aAm.new (o:=.lst [V.str "end"]) hl4
   have g4:=aAd (H:=G) (a:=l4) (o:=.lst [V.str "end"])
   generalize L2.upd G l4 (.lst [V.str "end"])=G4 at t4 g4 ⊢
   refine aUj (t4 _ _ glf) g4 (by simp; omega) fun l5 hl5=>?_
   have t5:=sG.trans t4
   walk_at "go"
   refine q l5 _ (t5.free hl5) (t5.trans (aAm.new hl5)) ?_
   rw [aAd]
   show some (HO.lst ((((("piece":Str)::x.1::x.2.1)::x.2.2.map aKw).map lnV)++[V.str "end"]))=some (HO.lst ((((("piece":Str)::x.1::x.2.1)::(x.2.2.map aKw++[[("end":Str)]])).map lnV)))
   rw [List.map_cons,List.map_cons,List.map_append]
   rfl
set_option maxHeartbeats 0 in
theorem aW3 (T:Bl mg) (d:Df K mg "_law_next" aLe ["_law_number_here","_law_state","_law_names_here"]  ) (W:XmS mg xt x0 x1 x4 x5 x10) (R_NoText:XrS K xt x0 x1 x4 x5 x10 x5 5) (o_closed:Okf P w K mg base k "_law_closed" ["_law_state"] (aJl K)) (o_row_texts:Okf P w K mg base k "_law_row_texts" ["_law_row_here"] (aMl K)) (o_row:Okf P w K mg base k "_law_row" ["_law_number_here","_law_names_here","_law_known"] (aQi K)):Okf P w K mg base (k+1) "_law_next" ["_law_number_here","_law_state","_law_names_here"] (aUt K):=by
 refine Okf.of d aHk (fun vs H Q E h=>?_) (fun f cdv A outer s H vs Q E hr h=>?_)
 ·obtain ⟨c,d,lf,lk,ln,U,gs,ins,H0,n,rfl,_⟩:=h
  rfl
 ·obtain ⟨c,d,lf,lk,ln,U,gs,ins,H0,n,rfl,hc,s0,hln,⟨hU8,hUp,hUn⟩,st,hn,q⟩:=h
  refine ⟨_,(@aAe _ _ _ _ _ (@aAp _ _ (i:=3) _ _ _ _ aHk.nd rfl (by first | exact Or.inl rfl | exact Or.inr rfl) (@aAr _ _ _ _ _ _ _ aAt (pv 2) (@aAj _ _ _ _ _ _ _ _ aA5 (@aAj _ _ _ _ _ _ _ _ aAw (pv 0) (@aAb _ _ _ _)) (@aAb _ _ _ _)) (fun _ _=>rfl)) (by rfl) (by first | exact .inl rfl | exact .inr rfl | assumption)) (@aAe _ _ _ _ _ (@aAp _ _ (i:=4) _ _ _ _ aHk.nd rfl (by first | exact Or.inl rfl | exact Or.inr rfl) (@aB2 _ _ _ _ _ _ hr.u1 (pv 1) (@aAi _ _ _ _) (fun _ _=>rfl)) (by rfl) (by first | exact .inl rfl | exact .inr rfl | assumption)) (@aAf _ _ _ (@aA6 _ _ _ _ _ _ _ _ (@PW.pt _ _ _ (@aCf _ _ _ _ _ _ _ (@aAl _ _ _ _ _ _ _ _ aHw (pv 4) (@aBj _ _ _) (aAo _)) (@aCf _ _ _ _ _ _ _ (@aAl _ _ _ _ _ _ _ _ (aA0 hr.units) (@aAj _ _ _ _ _ _ _ _ aA5 (pv 0) (@aAb _ _ _ _)) (@aAb _ _ _ _) (aAo _)) (@aCl _ _ _ _ (@aAl _ _ _ _ _ _ _ _ aLj (pv 3) (@aC8 _ _ _ _ _ _ _ _ _ _ _ _ _ _ (@aB7 _ _ (sc:=aAh aLe) (N:=["_law_number_here","_law_state","_law_names_here","_law_name","_law_inside","_law_many","_law_row_here"]) (tn:=["_law_told","_law_many"]) (names:=[]) (is:=[]) rfl rfl (by decide +kernel) (by decide +kernel) rfl (by decide +kernel) rfl (by decide +kernel) (by decide +kernel) (by decide +kernel)) rfl (@aCb _ _ _ _ (@aB2 _ _ _ _ _ _ hr.u1 (pv 1) (@aAi _ _ _ _) (fun _ _=>rfl))) (fun _ _ _ _=>(@aWp _ _ _ _ _ _ _ _ _ _ _ (n:=2) _ rfl (@aD2 _ _ _ _ _ (@aAx _ _ (i:=0) _ (show (["_law_told","_law_many"]:List Str).Nodup by decide +kernel) rfl (Or.inl rfl) (Or.inr rfl)) (@aD2 _ _ _ _ _ (@aAx _ _ (i:=1) _ (show (["_law_told","_law_many"]:List Str).Nodup by decide +kernel) rfl (Or.inl rfl) (Or.inr rfl)) (@aM0 _) (by rfl)) (by rfl)) (by rfl) (by rfl))) (fun _ _ _ _=>(pv 0)) (fun _ _ _ _=>(@aB9 _)) (by intro _; rfl)) (by with_unfolding_all rfl)))))) (@aAe _ _ _ _ _ (@aAp _ _ (i:=5) _ _ _ _ aHk.nd rfl (by first | exact Or.inl rfl | exact Or.inr rfl) (@aAj _ _ _ _ _ _ _ _ aAs (@aAb _ _ _ _) (@aAj _ _ _ _ _ _ _ _ aA5 (@aAj _ _ _ _ _ _ _ _ aAw (pv 0) (@aAb _ _ _ _)) (@aAr _ _ _ _ _ _ _ aAt (@aA4 _ _ _ _ (@aAa _ _ _ _ _ (@aAb _ _ _ _) (@aAa _ _ _ _ _ (@aAb _ _ _ _) (@aAa _ _ _ _ _ (@aAb _ _ _ _) (@aAc _) (by rfl)) (by rfl)) (by rfl))) (@aAj _ _ _ _ _ _ _ _ aA5 (@aAj _ _ _ _ _ _ _ _ aAw (pv 0) (@aAb _ _ _ _)) (@aAb _ _ _ _)) (fun _ _=>rfl)))) (by rfl) (by first | exact .inl rfl | exact .inr rfl | assumption)) (@aAe _ _ _ _ _ (@aE5 _ _ _ _ _ _ _ _ _ hr.u1 (pv 1) (@aAi _ _ _ _) (@aA4 _ _ _ _ (@aAa _ _ _ _ _ (pv 3) (@aAa _ _ _ _ _ (@aA8 _ _ _ _ _ _ _ _ _ aBe rfl T.z_tuple aCo (@aAa _ _ _ _ _ (@aC8 _ _ _ _ _ _ _ _ _ _ _ _ _ _ (@aB7 _ _ (sc:=aAh aLe) (N:=["_law_number_here","_law_state","_law_names_here","_law_name","_law_inside","_law_many","_law_row_here"]) (tn:=["_law_j"]) (names:=["_law_number_here","_law_names_here"]) (is:=[0,2]) rfl rfl (by decide +kernel) (by decide +kernel) rfl (by decide +kernel) rfl (by decide +kernel) (by decide +kernel) (by decide +kernel)) rfl (@aDr _ _ _ _ _ _ rfl T.z_range (@aAa _ _ _ _ _ (pv 5) (@aAc _) (by rfl)) (by rfl)) (fun _ _ _ _=>(@aAx _ _ (i:=0) _ (show (["_law_j","_law_number_here","_law_names_here"]:List Str).Nodup by decide +kernel) rfl (Or.inl rfl) (Or.inr rfl))) (fun _ _ _ _=>(@aAr _ _ _ _ _ _ _ aRw (pv 2) (@aAj _ _ _ _ _ _ _ _ aA5 (@aAj _ _ _ _ _ _ _ _ aEv (@aAj _ _ _ _ _ _ _ _ aAw (pv 1) (@aAb _ _ _ _)) (pv 0)) (@aAb _ _ _ _)) (fun _ _=>rfl))) (fun _ _ _ _=>(@aB9 _)) (by intro _; rfl)) (@aAc _) (by rfl)) (by decide) (by decide) (by rfl) (by rfl)) (@aAa _ _ _ _ _ (@aA4 _ _ _ _ (@aAc _)) (@aAc _) (by rfl)) (by rfl)) (by rfl))) rfl) (@aAf _ _ _ (@aE5 _ _ _ _ _ _ _ _ _ hr.u1 (pv 1) (@aAi _ _ _ _) (@aAj _ _ _ _ _ _ _ _ aAs (@aB2 _ _ _ _ _ _ hr.u1 (pv 1) (@aAi _ _ _ _) (fun _ _=>rfl)) (@aAb _ _ _ _)) rfl)))) (@aAf _ _ _ (@aA6 _ _ _ _ _ _ _ _ (@PW.pt _ _ _ (@aCf _ _ _ _ _ _ _ (@aAl _ _ _ _ _ _ _ _ aCt (pv 4) (@aBj _ _ _) (aAo _)) (@aCf _ _ _ _ _ _ _ (@aAl _ _ _ _ _ _ _ _ (aA0 hr.units) (@aAj _ _ _ _ _ _ _ _ aA5 (pv 0) (@aAb _ _ _ _)) (@aAb _ _ _ _) (aAo _)) (@aCl _ _ _ _ (@aAl _ _ _ _ _ _ _ _ (aD5 hr.units) (@aAr _ _ _ _ _ _ _ aAt (pv 4) (@aAb _ _ _ _) (fun _ _=>rfl)) (@aA4 _ _ _ _ (@aAc _)) (aAo _)))))) (@aAf _ _ _ (@aBh _ _ _ _ (@aAn _ _ _ _ _ _ _ _ _ _ o_closed hr rfl (@aAa _ _ _ _ _ (pv 1) (@aAc _) (by rfl)) (by decide) (by rfl) (by rfl)) (by rfl))) (@aAe _ _ _ _ _ (@aAp _ _ (i:=6) _ _ _ _ aHk.nd rfl (by first | exact Or.inl rfl | exact Or.inr rfl) (@aAn _ _ _ _ _ _ _ _ _ _ o_row hr rfl (@aAa _ _ _ _ _ (@aAj _ _ _ _ _ _ _ _ aAw (pv 0) (@aAb _ _ _ _)) (@aAa _ _ _ _ _ (pv 2) (@aAa _ _ _ _ _ (@aB2 _ _ _ _ _ _ hr.u1 (pv 1) (@aAi _ _ _ _) (fun _ _=>rfl)) (@aAc _) (by rfl)) (by rfl)) (by rfl)) (by decide) (by rfl) (by rfl)) (by rfl) (by first | exact .inl rfl | exact .inr rfl | assumption)) (@aAe _ _ _ _ _ (@aE5 _ _ _ _ _ _ _ _ _ hr.u1 (pv 1) (@aAi _ _ _ _) (@aAj _ _ _ _ _ _ _ _ aAs (@aAj _ _ _ _ _ _ _ _ aAs (@aB2 _ _ _ _ _ _ hr.u1 (pv 1) (@aAi _ _ _ _) (fun _ _=>rfl)) (@aAk _ _ _ _ _ _ _ _ _ aBo rfl T.z_len aAz (@aAa _ _ _ _ _ (@aAr _ _ _ _ _ _ _ aAt (@aAn _ _ _ _ _ _ _ _ _ _ o_row_texts hr rfl (@aAa _ _ _ _ _ (pv 6) (@aAc _) (by rfl)) (by decide) (by rfl) (by rfl)) (@aAb _ _ _ _) (fun _ _=>rfl)) (@aAc _) (by rfl)) (by decide) (by decide) (by rfl) (by rfl))) (@aAb _ _ _ _)) rfl) (@aAf _ _ _ (@aA6 _ _ _ _ _ _ _ _ (@aAl _ _ _ _ _ _ _ _ aHw (pv 4) (@aBj _ _ _) (aAo _)) (@aAf _ _ _ (@aBh _ _ _ _ (@aB4 _ _ _ _ _ _ _ _ _ _ _ _ PySem.F.plainAttrs_list PySem.F.slot_list_append PySem.F.type_list_append aBm (@aB2 _ _ _ _ _ _ hr.u1 (pv 1) (@aAi _ _ _ _) (fun _ _=>rfl)) (@aAa _ _ _ _ _ (pv 6) (@aAc _) (by rfl)) (by rfl) (by rfl) (by rfl) (by rfl) (by rfl)) (by rfl))) (@aAf _ _ _ (@aBh _ _ _ _ (@aB4 _ _ _ _ _ _ _ _ _ _ _ _ PySem.F.plainAttrs_list PySem.F.slot_list_append PySem.F.type_list_append aBm (@aAr _ _ _ _ _ _ _ aAt (pv 4) (@aAb _ _ _ _) (fun _ _=>rfl)) (@aAa _ _ _ _ _ (pv 6) (@aAc _) (by rfl)) (by rfl) (by rfl) (by rfl) (by rfl) (by rfl)) (by rfl))))))))))))),?_⟩
  have hwE:=aP1 (E:=[]) trivial st.wf
  have h8:=env8 hU8 hwE st.nm
  have hps8:∀ p∈aFv [] gs,1<=p.2.1.length/\p.2.1.length<=8:=fun p hp=>⟨(hwE.at hp).2.2.2.1,(hwE.at hp).2.2.2.2.1⟩
  have st':=st
  obtain ⟨⟨vi,u,hd,hins⟩,ne,⟨fd,ff,fk⟩,⟨xs,hxs,px⟩,hkn,wf,nm,le⟩:=st
  have hxl:=Paired.length px
  have hdl:∀ {b:Addr} {zs:List V},H b=some (.lst zs)->b≠d:=fun h e=>by rw [e,hd] at h; cases h
  have hgl:gs.length<=n:=by have:=aRp gs; omega
  walk_at "go"
  have i0:0<=c.fdiv 9 % 8/\c.fdiv 9 % 8 < 8:=by omega
  obtain ⟨s1,ms1,e1⟩:=aEf (nm:=U) (i:=c.fdiv 9 % 8) i0.1 (by omega)
  refine aBa (s0 _ _ hln) e1 ?_
  walk_at "go"
  refine aDl (.inl hd) aD8 ?_
  cases ins with
  | none =>
   cases (show vi=.non from hins)
   refine aMv ?_
   refine aUy ?_
   refine aV8 (fun GX=>aAm H GX) ?_ ?_
   ·intro GX sX
    walk_at "go"
    refine aDl (.inl (sX _ _ hd)) aGy ?_
    walk_at "go"
    refine ⟨_,ln,U,lk,aFv [] gs,rfl,aBw hc (by decide),sX _ _ (s0 _ _ hln),hU8,hUp,hkn.sm sX,h8,hps8,fun v G r sG rq wr=>?_⟩
    have sXG:=sX.trans sG
    walk_at "go"
    refine aDl (.inl (sXG _ _ hd)) aG9 ?_
    walk_at "go"
    refine ⟨v,.one r,aFv [] gs,rfl,rq,⟨wr,trivial⟩,hwE,fun l G2 hl s2 gl=>?_⟩
    have hz:=(aEy hwE wr).2.2
    replace gl:G2 l=some (.lst [.str (Str.join sp1 (aKw r))]):=gl
    generalize Str.join sp1 (aKw r)=z at hz gl
    walk_at "go"
    refine aI4 (by rw [sizeLine_eq]; omega) ?_
    walk_at "go"
    have sX2:=sXG.trans s2
    have hd2:=sX2 _ _ hd
    refine aMx hd2 (by show 4<=1000; decide) ?_
    rw [aNu]
    generalize u+(z.length:Int)+3=u'
    have k3:Kp d G2 (L2.upd G2 d (.dK (stK lf lk .non u'))):=Kp.upd
    have tk3:=TK.dic (o:=.dK (stK lf lk .non u')) hd2
    have g3:=aAd (H:=G2) (a:=d) (o:=.dK (stK lf lk .non u'))
    generalize L2.upd G2 d (.dK (stK lf lk .non u'))=G3 at k3 tk3 g3 ⊢
    have rq3:aBp G3 v r:=(rq.tk s2.tk).tk tk3
    have tkX:=sX2.tk.trans tk3
    walk_at "go"
    refine aDl (.inl g3) aEp ?_
    have hxs3:=k3 _ _ (hdl hxs) (sX2 _ _ hxs)
    walk_at "go"
    refine aJ3 hxs3 (by omega) ?_
    have k4:Kp lf G3 (L2.upd G3 lf (.lst (xs++[v]))):=Kp.upd
    have tk4:=TK.lst (o:=.lst (xs++[v])) hxs3
    have g4:=aAd (H:=G3) (a:=lf) (o:=.lst (xs++[v]))
    generalize L2.upd G3 lf (.lst (xs++[v]))=G4 at k4 tk4 g4 ⊢
    have eE:aFv [] (gs++[.one r])=aFv [] gs:=aFu gs [] (.one r)
    walk_at "go"
    refine q G4 (gs++[.one r]) none (fun b o h=>?_) ⟨⟨_,_,k4 _ _ (hdl hxs).symm g3,rfl⟩,ne,⟨fd,ff,fk⟩,⟨_,g4,?_⟩,?_,?_,?_,?_⟩
    ·exact k4 _ _ (aAg h ff) (k3 _ _ (aAg h fd) (sX2 _ _ (s0 _ _ h)))
    ·exact Pd.snoc (Pd.imp px fun v b f=>(f.tk tkX).tk tk4) (show aEw G4 v (.one r) from rq3.tk tk4)
    ·rw [eE]
     obtain ⟨ks,hks,pk⟩:=hkn
     exact ⟨ks,k4 _ _ ne.symm (k3 _ _ (hdl hks) (sX2 _ _ hks)),Pd.imp pk fun v b ⟨a,e,f⟩=>⟨a,e,tk4 _ _ (tkX _ _ f)⟩⟩
    ·exact (aGw gs [] (.one r)).mpr ⟨wf,wr,trivial⟩
    ·rw [eE]
     exact nm
    ·rw [aKf]
     show lnN gs+(0+1)+0<=_
     have:lnN gs+0<=n:=le
     omega
   intro NB hNB
   walk_at "go"
   refine i_d (fun c1=>?_) (fun c1=>?_)
   ·walk_at "go"
    refine aDl (.inl hd) aGy ?_
    obtain ⟨ks,hks,pk⟩:=id hkn
    have hkl:=Paired.length pk
    rw [List.length_reverse] at hkl
    refine aCa (SqL.of hks) ?_
    refine aWf (xs:=ks) (by omega) (fun acc i ys G=>Kp acc H G/\ys=(((aFv [] gs).reverse.take i).map (·.1)).map V.str) ?_ ?_ ?_ ?_
    ·intro acc h0
     exact ⟨Kp.new h0,rfl⟩
    ·rintro acc i ys G h0 hi ⟨kp,_⟩
     exact SqL.of (kp _ _ (aAg hks h0) hks)
    ·rintro acc i ys G y h0 hy hyl hG ⟨kp,rfl⟩
     obtain ⟨p,hp0,a,rfl,ha⟩:=Paired.at pk hy
     refine ⟨a,_,_,rfl,kp _ _ (aAg ha h0) ha,?_⟩
     walk_at "go"
     refine aDu (by have:=(List.getElem?_eq_some_iff.mp hy).1; exact this) hyl hG ⟨kp.trans Kp.upd,?_⟩
     rw [List.take_add_one,hp0,List.map_append,List.map_append]
     rfl
    ·rintro acc ys G h0 hG hyl ⟨kp,rfl⟩
     rw [hkl,← List.length_reverse,List.take_length] at hG
     have sX:aAm H G:=fun b o h=>kp _ _ (aAg h h0) h
     refine aZg hG ?_
     by_cases hm:s1∈(aFv [] gs).reverse.map (·.1)
     ·rw [decide_eq_true hm]
      walk_at "go"
      exact hNB _ sX
     ·rw [decide_eq_false hm]
      walk_at "go"
      refine aA2 fun l4 hl4=>?_
      have t4:=aAm.new (o:=.lst [V.int 2,V.int 3,V.int 8]) hl4
      have hl4':=aAd (H:=G) (a:=l4) (o:=.lst [V.int 2,V.int 3,V.int 8])
      generalize L2.upd G l4 (.lst [V.int 2,V.int 3,V.int 8])=G2 at t4 hl4' ⊢
      walk_at "go"
      obtain ⟨t,et,ht⟩:=at3 (x0:=2) (x1:=3) (x2:=8) (fun z=>0 < z/\z<=8) (by decide) (by decide) (by decide) (c.fdiv 576 % 3) (Int.emod_nonneg _ (by decide)) (Int.emod_lt_of_pos _ (by decide))
      refine aBa hl4' et ?_
      refine aZj ht.1 ?_
      have m0:=Int.emod_nonneg (c.fdiv 72) (show t≠0 by omega)
      have m1:=Int.emod_lt_of_pos (c.fdiv 72) ht.1
      obtain ⟨m,hm1,em⟩:∃ m:Nat,(1<=m/\m<=8)/\1+c.fdiv 72 % t=(m:Int):=⟨(1+c.fdiv 72 % t).toNat,by omega,by omega⟩
      walk_at "go"
      rw [em]
      clear em
      refine aEd (by omega) (by omega) ?_
      have sX2:=sX.trans t4
      have hln2:=sX2 _ _ (s0 _ _ hln)
      refine aMy (n:=(m:Int).toNat) (by omega) (fun acc k ys G'=>Kp acc G2 G'/\∃ ps:List Str,ys=ps.map V.str/\ps.length=k/\∀ j,j < k->∃ s,ps[j]?=some s/\U[((c.fdiv 1728+(j:Int)) % 8).toNat]?=some s) ?_ ?_ ?_
      ·intro acc h0
       exact ⟨Kp.new h0,[],rfl,rfl,fun j h=>absurd h (Nat.not_lt_zero _)⟩
      ·rintro acc k ys G' h0 hk hyl hG' ⟨kp',ps,rfl,hpl,hps⟩
       walk_at "go"
       obtain ⟨s3,hs3⟩:∃ s,U[((c.fdiv 1728+(k:Int)) % 8).toNat]?=some s:=⟨_,List.getElem?_eq_getElem (by omega)⟩
       refine aBa (kp' _ _ (aAg hln2 h0) hln2) (v:=.str s3) ?_ ?_
       ·rw [Int.zero_add,show (c.fdiv 1728+(k:Int)) % 8=((((c.fdiv 1728+(k:Int)) % 8).toNat:Nat):Int) by omega]
        exact aA7 (by rw [List.getElem?_map,hs3]; rfl)
       refine aDu hk hyl hG' ⟨kp'.trans Kp.upd,ps++[s3],by simp,by rw [List.length_append,hpl]; rfl,fun j hj=>?_⟩
       rcases Nat.lt_or_ge j k with h | h
       ·obtain ⟨s,h1,h2⟩:=hps j h
        exact ⟨s,by rw [List.getElem?_append_left (by omega)]; exact h1,h2⟩
       ·have:j=k:=by omega
        subst this
        exact ⟨s3,by rw [List.getElem?_append_right (by omega),hpl,Nat.sub_self]; rfl,hs3⟩
      rintro acc ys G' h0' hG' hyl ⟨kp',ps,rfl,hpl,hps⟩
      rw [Int.toNat_natCast] at hpl hps
      have sG':aAm G2 G':=fun b o h=>kp' _ _ (aAg h h0') h
      walk_at "go"
      refine ⟨acc,_,rfl,.inl ⟨SqL.of hG',fun qa hqa=>?_⟩⟩
      have t5:=sG'.trans (aAm.new (o:=.tup (ps.map V.str)) hqa)
      have g5:=aAd (H:=G') (a:=qa) (o:=.tup (ps.map V.str))
      generalize L2.upd G' qa (.tup (ps.map V.str))=G5 at t5 g5 ⊢
      walk_at "go"
      refine aA2 fun ls hls=>?_
      have t6:=aAm.new (o:=.lst []) hls
      have g6:=aAd (H:=G5) (a:=ls) (o:=.lst [])
      generalize L2.upd G5 ls (.lst [])=G6 at t6 g6 ⊢
      walk_at "go"
      refine aA2 fun li hli=>?_
      have t7:=aAm.new (o:=.lst [.str s1,.ref qa,.ref ls]) hli
      have g7:=aAd (H:=G6) (a:=li) (o:=.lst [.str s1,.ref qa,.ref ls])
      generalize L2.upd G6 li (.lst [.str s1,.ref qa,.ref ls])=G7 at t7 g7 ⊢
      have u5:=sX2.trans t5
      have u6:=u5.trans t6
      have u7:=u6.trans t7
      have hd7:=u7 _ _ hd
      walk_at "go"
      refine aMx hd7 (by show 4<=1000; decide) ?_
      rw [aUr]
      have k8:Kp d G7 (L2.upd G7 d (.dK (stK lf lk (.ref li) u))):=Kp.upd
      have tk8:=TK.dic (o:=.dK (stK lf lk (.ref li) u)) hd7
      have g8:=aAd (H:=G7) (a:=d) (o:=.dK (stK lf lk (.ref li) u))
      generalize L2.upd G7 d (.dK (stK lf lk (.ref li) u))=G8 at k8 tk8 g8 ⊢
      walk_at "go"
      refine aDl (.inl g8) aG9 ?_
      walk_at "go"
      refine aMx g8 (by show 4<=1000; decide) ?_
      rw [aNu]
      have k9:Kp d G8 (L2.upd G8 d (.dK (stK lf lk (.ref li) (u+100)))):=Kp.upd
      have tk9:=TK.dic (o:=.dK (stK lf lk (.ref li) (u+100))) g8
      have g9:=aAd (H:=G8) (a:=d) (o:=.dK (stK lf lk (.ref li) (u+100)))
      generalize L2.upd G8 d (.dK (stK lf lk (.ref li) (u+100)))=G9 at k9 tk9 g9 ⊢
      walk_at "go"
      have kd:∀ b o,b≠d->G7 b=some o->G9 b=some o:=fun b o nb h=>k9 _ _ nb (k8 _ _ nb h)
      have nsd:ls≠d:=fun e=>by rw [e] at hls; rw [u5 _ _ hd] at hls; cases hls
      have nid:li≠d:=fun e=>by rw [e] at hli; rw [u6 _ _ hd] at hli; cases hli
      have tkX:=u7.tk.trans (tk8.trans tk9)
      refine q G9 gs (some (s1,ps,[])) (fun b o h=>kd _ _ (aAg h fd) (u7 _ _ (s0 _ _ h))) ⟨⟨_,_,g9,⟨⟨li,qa,ls,[],rfl,kd _ _ nid g7,(tk8.trans tk9) _ _ (t7 _ _ (t6 _ _ g5)),kd _ _ nsd (t7 _ _ g6),.nil,(s0.trans u6).free hli,(s0.trans u5).free hls,(aAg (u6 _ _ hxs) hli).symm,(aAg (u6 _ _ hks) hli).symm,(aAg g6 hli).symm,(aAg (u5 _ _ hxs) hls).symm,(aAg (u5 _ _ hks) hls).symm⟩,ms1,fun p hp e=>?_,aWo hU8 hUn _ hm1.2 hpl hps,by show 1<=ps.length/\ps.length<=8; omega,(fun _ h=>nomatch h),fun s hs=>?_⟩⟩,ne,⟨fd,ff,fk⟩,⟨xs,kd _ _ (hdl hxs) (u7 _ _ hxs),Pd.imp px fun v b f=>f.tk tkX⟩,⟨ks,kd _ _ (hdl hks) (u7 _ _ hks),Pd.imp pk fun v b ⟨a,e,f⟩=>⟨a,e,tkX _ _ f⟩⟩,wf,nm,?_⟩
      ·exact hm (List.mem_map.mpr ⟨p,List.mem_reverse.mpr hp,e⟩)
      ·rcases List.mem_cons.mp hs with rfl | hs
       ·exact hUp _ ms1
       ·obtain ⟨j,hj⟩:=List.getElem?_of_mem hs
        have hjl:j < ps.length:=(List.getElem?_eq_some_iff.mp hj).1
        obtain ⟨s',h1,h2⟩:=hps j (by omega)
        rw [hj] at h1
        cases h1
        exact hUp _ (List.mem_of_getElem? h2)
      ·show lnN gs+(0+1)<=_
       have:lnN gs+0<=n:=le
       omega
   ·walk_at "go"
    exact hNB _ (aAm.refl _)
  | some x =>
   obtain ⟨⟨li,qa,ls,ys,rfl,hli,hqa,hls,prs,f1,f2,n1,n2,n3,n4,n5⟩,inm,inw,ind',ile,iwf,ipb⟩:=(show aX3 H0 H d lf lk U (aFv [] gs) vi x from hins)
   have hyl:=Paired.length prs
   have le2:lnN gs+(x.2.2.length+1)<=n:=le
   refine aMv ?_
   refine aUy ?_
   refine aV8 (fun GX=>GX=H) ?_ ?_
   rotate_left
   ·intro NB hNB
    walk_at "go"
    exact hNB _ rfl
   rintro GX rfl
   refine aV8 (fun GY=>aAm GX GY) ?_ ?_
   ·intro GY sX
    walk_at "go"
    refine aDl (.inl (sX _ _ hd)) aGy ?_
    walk_at "go"
    refine ⟨_,ln,U,lk,aFv [] gs,rfl,aBw hc (by decide),sX _ _ (s0 _ _ hln),hU8,hUp,hkn.sm sX,h8,hps8,fun v G r sG rq wr=>?_⟩
    have sXG:=sX.trans sG
    walk_at "go"
    refine aDl (.inl (sXG _ _ hd)) aG9 ?_
    walk_at "go"
    refine ⟨v,.one r,aFv [] gs,rfl,rq,⟨wr,trivial⟩,hwE,fun l G2 hl s2 gl=>?_⟩
    have hz:=(aEy hwE wr).2.2
    replace gl:G2 l=some (.lst [.str (Str.join sp1 (aKw r))]):=gl
    generalize Str.join sp1 (aKw r)=z at hz gl
    walk_at "go"
    refine aI4 (by rw [sizeLine_eq]; omega) ?_
    walk_at "go"
    have sX2:=sXG.trans s2
    have hd2:=sX2 _ _ hd
    refine aMx hd2 (by show 4<=1000; decide) ?_
    rw [aNu]
    generalize u+(z.length:Int)+3=u'
    have k3:Kp d G2 (L2.upd G2 d (.dK (stK lf lk (.ref li) u'))):=Kp.upd
    have tk3:=TK.dic (o:=.dK (stK lf lk (.ref li) u')) hd2
    have g3:=aAd (H:=G2) (a:=d) (o:=.dK (stK lf lk (.ref li) u'))
    generalize L2.upd G2 d (.dK (stK lf lk (.ref li) u'))=G3 at k3 tk3 g3 ⊢
    have rq3:aBp G3 v r:=(rq.tk s2.tk).tk tk3
    have tkX:=sX2.tk.trans tk3
    walk_at "go"
    have nid:li≠d:=hdl hli
    have nsd:ls≠d:=hdl hls
    have hli3:=k3 _ _ nid (sX2 _ _ hli)
    have hls3:=k3 _ _ nsd (sX2 _ _ hls)
    refine aBa hli3 (show atI [V.str x.1,.ref qa,.ref ls] ((2:Nat):Int)=some (.ref ls) from aA7 rfl) ?_
    walk_at "go"
    refine aJ3 hls3 (by omega) ?_
    have k4:Kp ls G3 (L2.upd G3 ls (.lst (ys++[v]))):=Kp.upd
    have tk4:=TK.lst (o:=.lst (ys++[v])) hls3
    have g4:=aAd (H:=G3) (a:=ls) (o:=.lst (ys++[v]))
    generalize L2.upd G3 ls (.lst (ys++[v]))=G4 at k4 tk4 g4 ⊢
    walk_at "go"
    refine q G4 gs (some (x.1,x.2.1,x.2.2++[r])) (fun b o h=>?_) ⟨⟨_,_,k4 _ _ nsd.symm g3,⟨⟨li,qa,ls,_,rfl,k4 _ _ n3 hli3,(tkX.trans tk4) _ _ hqa,g4,?_,f1,f2,n1,n2,n3,n4,n5⟩,inm,inw,ind',ile,?_,ipb⟩⟩,ne,⟨fd,ff,fk⟩,⟨xs,k4 _ _ n4.symm (k3 _ _ (hdl hxs) (sX2 _ _ hxs)),Pd.imp px fun v b f=>(f.tk tkX).tk tk4⟩,?_,wf,nm,?_⟩
    ·exact k4 _ _ (aAg h f2) (k3 _ _ (aAg h fd) (sX2 _ _ (s0 _ _ h)))
    ·exact Pd.snoc (Pd.imp prs fun v b f=>(f.tk tkX).tk tk4) (rq3.tk tk4)
    ·intro r' hr'
     rcases List.mem_append.mp hr' with h | h
     ·exact iwf r' h
     ·rw [List.mem_singleton.mp h]
      exact wr
    ·obtain ⟨ks,hks,pk⟩:=hkn
     exact ⟨ks,k4 _ _ n5.symm (k3 _ _ (hdl hks) (sX2 _ _ hks)),Pd.imp pk fun v b ⟨a,e,f⟩=>⟨a,e,tk4 _ _ (tkX _ _ f)⟩⟩
    ·show lnN gs+((x.2.2++[r]).length+1)<=_
     have:lnN gs+(x.2.2.length+1)<=n:=le
     rw [List.length_append]
     show _+(_+1+1)<=_
     omega
   intro NB hNB
   walk_at "go"
   refine i_d (fun c1=>?_) (fun c1=>?_)
   ·walk_at "go"
    refine aA2 fun le1 hle1=>?_
    have sX:=aAm.new (o:=.lst []) hle1
    have ge:=aAd (H:=GX) (a:=le1) (o:=.lst [])
    generalize L2.upd GX le1 (.lst [])=GZ at sX ge ⊢
    refine bBf (sX _ _ hls) (Pd.imp prs fun v b f=>f.tk sX.tk) ge ?_
    by_cases hr0:x.2.2=[]
    ·rw [show (!x.2.2.isEmpty)=false by rw [hr0]; rfl]
     walk_at "go"
     exact hNB _ sX
    ·rw [show (!x.2.2.isEmpty)=true by cases e:x.2.2 with | nil=>exact absurd e hr0 | cons a b=>rfl]
     walk_at "go"
     refine ⟨d,lf,lk,U,gs,x,H0,n,rfl,s0.trans sX,st'.sm sX,hr0,by omega,fun H' s' st2=>?_⟩
     walk_at "go"
     exact q H' _ _ s' st2
   ·walk_at "go"
    exact hNB _ (aAm.refl _)
set_option maxHeartbeats 0 in
theorem aTx (T:Bl mg) (d:Df K mg "_law_built" aMs ["_law_script","_law_first","_law_end"]  ) (W:XmS mg xt x0 x1 x4 x5 x10) (R_NoText:XrS K xt x0 x1 x4 x5 x10 x5 5) (o_closed:Okf P w K mg base k "_law_closed" ["_law_state"] (aJl K)) (o_number:Okf P w K mg base k "_law_number" ["_law_script","_law_k"] (aN2 K)) (o_next:Okf P w K mg base k "_law_next" ["_law_number_here","_law_state","_law_names_here"] (aUt K)) (o_names:Okf P w K mg base k "_law_names" ["_law_script"] (aHd K)):Okf P w K mg base (k+1) "_law_built" ["_law_script","_law_first","_law_end"] (aQj K):=by
 refine Okf.of d aG0 (fun vs H Q E h=>?_) (fun f cdv A outer s H vs Q E hr h=>?_)
 ·obtain ⟨a,ns,m,rfl,_⟩:=h
  rfl
 ·obtain ⟨a,ns,m,rfl,hS,h63,hm,q⟩:=h
  refine ⟨_,(@aAe _ _ _ _ _ (@aAp _ _ (i:=3) _ _ _ _ aG0.nd rfl (by first | exact Or.inl rfl | exact Or.inr rfl) (@aAn _ _ _ _ _ _ _ _ _ _ o_names hr rfl (@aAa _ _ _ _ _ (pv 0) (@aAc _) (by rfl)) (by decide) (by rfl) (by rfl)) (by rfl) (by first | exact .inl rfl | exact .inr rfl | assumption)) (@aAe _ _ _ _ _ (@aAp _ _ (i:=4) _ _ _ _ aG0.nd rfl (by first | exact Or.inl rfl | exact Or.inr rfl) (@aWs _ _ _ _ _ (@aG3 _ _ _ _ _ _ _ _ _ (@aAi _ _ _ _) (@aA4 _ _ _ _ (@aAc _)) (@aG3 _ _ _ _ _ _ _ _ _ (@aAi _ _ _ _) (@aA4 _ _ _ _ (@aAc _)) (@aG3 _ _ _ _ _ _ _ _ _ (@aAi _ _ _ _) (@aBj _ _ _) (@aG3 _ _ _ _ _ _ _ _ _ (@aAi _ _ _ _) (@aAb _ _ _ _) (@aWm _ _))))) rfl rfl (List.cons_ne_nil _ _) (Nat.le_of_ble_eq_true rfl)) (by rfl) (by first | exact .inl rfl | exact .inr rfl | assumption)) (@aAe _ _ _ _ _ (@aDq _ _ _ _ _ _ _ _ PassesOwn.never rfl (@aHv _ _ _ _ _ _ _ rfl T.z_range (@aAa _ _ _ _ _ (pv 1) (@aAa _ _ _ _ _ (pv 2) (@aAc _) (by rfl)) (by rfl)) (by rfl) (by rfl)) (@aAx _ _ (i:=5) _ aG0.nd rfl (by first | exact Or.inl rfl | exact Or.inr rfl) (by first | exact .inl rfl | exact .inr rfl | assumption)) (@aAf _ _ _ (@aA6 _ _ _ _ _ _ _ _ (@aAl _ _ _ _ _ _ _ _ aQ9 (@aB2 _ _ _ _ _ _ hr.u1 (pv 4) (@aAi _ _ _ _) (fun _ _=>rfl)) (@aAb _ _ _ _) (aAo _)) (@aAf _ _ _ (@aBh _ _ _ _ (@aAn _ _ _ _ _ _ _ _ _ _ o_next hr rfl (@aAa _ _ _ _ _ (@aAn _ _ _ _ _ _ _ _ _ _ o_number hr rfl (@aAa _ _ _ _ _ (pv 0) (@aAa _ _ _ _ _ (pv 5) (@aAc _) (by rfl)) (by rfl)) (by decide) (by rfl) (by rfl)) (@aAa _ _ _ _ _ (pv 4) (@aAa _ _ _ _ _ (pv 3) (@aAc _) (by rfl)) (by rfl)) (by rfl)) (by decide) (by rfl) (by rfl)) (by rfl))) (@aAu _))) (by intro _; rfl)) (@aAe _ _ _ _ _ (@aA6 _ _ _ _ _ _ _ _ (@aAl _ _ _ _ _ _ _ _ aCt (@aB2 _ _ _ _ _ _ hr.u1 (pv 4) (@aAi _ _ _ _) (fun _ _=>rfl)) (@aBj _ _ _) (aAo _)) (@aAe _ _ _ _ _ (@aA6 _ _ _ _ _ _ _ _ (@aAl _ _ _ _ _ _ _ _ (aA0 hr.units) (@aAr _ _ _ _ _ _ _ aAt (@aB2 _ _ _ _ _ _ hr.u1 (pv 4) (@aAi _ _ _ _) (fun _ _=>rfl)) (@aAb _ _ _ _) (fun _ _=>rfl)) (@aA4 _ _ _ _ (@aAc _)) (aAo _)) (@aAf _ _ _ (@aBh _ _ _ _ (@aB4 _ _ _ _ _ _ _ _ _ _ _ _ PySem.F.plainAttrs_list PySem.F.slot_list_append PySem.F.type_list_append aBm (@aAr _ _ _ _ _ _ _ aAt (@aB2 _ _ _ _ _ _ hr.u1 (pv 4) (@aAi _ _ _ _) (fun _ _=>rfl)) (@aAb _ _ _ _) (fun _ _=>rfl)) (@aAa _ _ _ _ _ (@aBy _ _ _ _ _ (@aAa _ _ _ _ _ (@aAi _ _ _ _) (@aAa _ _ _ _ _ (@aAr _ _ _ _ _ _ _ aAt (pv 3) (@aAb _ _ _ _) (fun _ _=>rfl)) (@aAa _ _ _ _ _ (@aAr _ _ _ _ _ _ _ aAt (pv 3) (@aAb _ _ _ _) (fun _ _=>rfl)) (@aAa _ _ _ _ _ (@aBy _ _ _ _ _ (@aAa _ _ _ _ _ (@aAb _ _ _ _) (@aAa _ _ _ _ _ (@aAb _ _ _ _) (@aAc _) (by rfl)) (by rfl))) (@aAc _) (by rfl)) (by rfl)) (by rfl)) (by rfl))) (@aAc _) (by rfl)) (by rfl) (by rfl) (by rfl) (by rfl) (by rfl)) (by rfl))) (@aAu _)) (@aAf _ _ _ (@aBh _ _ _ _ (@aAn _ _ _ _ _ _ _ _ _ _ o_closed hr rfl (@aAa _ _ _ _ _ (pv 4) (@aAc _) (by rfl)) (by decide) (by rfl) (by rfl)) (by rfl)))) (@aAu _)) (@aAe _ _ _ _ _ (@aA6 _ _ _ _ _ _ _ _ (@aAl _ _ _ _ _ _ _ _ (aA0 hr.units) (@aB2 _ _ _ _ _ _ hr.u1 (pv 4) (@aAi _ _ _ _) (fun _ _=>rfl)) (@aA4 _ _ _ _ (@aAc _)) (aAo _)) (@aAf _ _ _ (@aBh _ _ _ _ (@aB4 _ _ _ _ _ _ _ _ _ _ _ _ PySem.F.plainAttrs_list PySem.F.slot_list_append PySem.F.type_list_append aBm (@aB2 _ _ _ _ _ _ hr.u1 (pv 4) (@aAi _ _ _ _) (fun _ _=>rfl)) (@aAa _ _ _ _ _ (@aBy _ _ _ _ _ (@aAa _ _ _ _ _ (@aAi _ _ _ _) (@aAa _ _ _ _ _ (@aAr _ _ _ _ _ _ _ aAt (pv 3) (@aAb _ _ _ _) (fun _ _=>rfl)) (@aAa _ _ _ _ _ (@aAr _ _ _ _ _ _ _ aAt (pv 3) (@aAb _ _ _ _) (fun _ _=>rfl)) (@aAa _ _ _ _ _ (@aBy _ _ _ _ _ (@aAa _ _ _ _ _ (@aAb _ _ _ _) (@aAa _ _ _ _ _ (@aAb _ _ _ _) (@aAc _) (by rfl)) (by rfl))) (@aAc _) (by rfl)) (by rfl)) (by rfl)) (by rfl))) (@aAc _) (by rfl)) (by rfl) (by rfl) (by rfl) (by rfl) (by rfl)) (by rfl))) (@aAu _)) (@aAf _ _ _ (@aAq _ _ _ _ (@aB2 _ _ _ _ _ _ hr.u1 (pv 4) (@aAi _ _ _ _) (fun _ _=>rfl))))))))),?_⟩
  walk_at "go"
  refine ⟨a,ns,rfl,hS,fun ln H1 U hln0 s1 hln hU8 hUp hUn=>?_⟩
  have hS1:=s1.seq hS
  obtain ⟨n0,hn0,e0⟩:=aEf (nm:=U) (i:=0) (by decide) (by omega)
  obtain ⟨n1,hn1,e1⟩:=aEf (nm:=U) (i:=1) (by decide) (by omega)
  have okr:okP (.run n0 n1 (Rat.divInt 1 1)):=⟨aTz.part (hUp _ hn0),aTz.part (hUp _ hn1),aNo.of2 (by decide) (by decide) (by decide) (by decide) (by decide)⟩
  walk_at "go"
  refine aWd fun dd hdd=>?_
  have a1:=aAm.new (o:=.dK []) hdd
  have b1:=aAd (H:=H1) (a:=dd) (o:=.dK [])
  generalize L2.upd H1 dd (.dK [])=A1 at a1 b1 ⊢
  walk_at "go"
  refine aA2 fun lf hlf=>?_
  have a2:=aAm.new (o:=.lst []) hlf
  have b2:=aAd (H:=A1) (a:=lf) (o:=.lst [])
  generalize L2.upd A1 lf (.lst [])=A2 at a2 b2 ⊢
  walk_at "go"
  refine aA2 fun lk hlk=>?_
  have a3:=aAm.new (o:=.lst []) hlk
  have b3:=aAd (H:=A2) (a:=lk) (o:=.lst [])
  generalize L2.upd A2 lk (.lst [])=A3 at a3 b3 ⊢
  walk_at "go"
  have nfk:lf≠lk:=aAg b2 hlk
  have ndf:dd≠lf:=aAg b1 hlf
  have ndk:dd≠lk:=aAg (a2 _ _ b1) hlk
  refine aXq (a3 _ _ (a2 _ _ b1)) ?_
  have k4:Kp dd A3 (L2.upd A3 dd (.dK (stK lf lk .non 0))):=Kp.upd
  have b4:=aAd (H:=A3) (a:=dd) (o:=.dK (stK lf lk .non 0))
  generalize L2.upd A3 dd (.dK (stK lf lk .non 0))=A4 at k4 b4 ⊢
  have hlf1:H1 lf=none:=a1.free hlf
  have hlk1:H1 lk=none:=(a1.trans a2).free hlk
  have s4:aAm H1 A4:=fun b o h=>k4 _ _ (aAg h hdd) (a3 _ _ (a2 _ _ (a1 _ _ h)))
  have st0:StI H1 A4 dd lf lk U [] none 0:=⟨⟨.non,0,b4,rfl⟩,nfk,⟨hdd,hlf1,hlk1⟩,⟨[],k4 _ _ ndf.symm (a3 _ _ b2),.nil⟩,⟨[],k4 _ _ ndk.symm b3,.nil⟩,trivial,fun _ h=>(nomatch h),Nat.le_refl _⟩
  walk_at "go"
  refine aMu (by decide) (by decide) (by omega) (by omega) ?_
  refine aGi (n:=((m:Int) - 2).toNat) (fun i σ G=>∃ (gs:List aCp) (ins:Option aBf) (o5:Option V),σ=[some (.ref a),some (.int 2),some (.int (m:Int)),some (.ref ln),some (.ref dd),o5]/\aAm H1 G/\StI H1 G dd lf lk U gs ins i) ⟨[],none,_,rfl,s4,st0⟩ ?_ ?_
  ·rintro i σ G hi ⟨gs,ins,o5,rfl,sG,st⟩
   obtain ⟨vi,u,hd,_⟩:=st.st
   walk_at "go"
   refine aDl (.inl hd) aG9 ?_
   walk_at "go"
   refine i_d (fun c1=>?_) (fun c1=>?_)
   ·walk_at "go"
    refine ⟨a,ns,_,rfl,sG.seq hS1,by omega,by omega,fun r hr=>?_⟩
    walk_at "go"
    refine ⟨r,dd,lf,lk,ln,U,gs,ins,H1,i,rfl,hr,sG,hln,⟨hU8,hUp,hUn⟩,st,by omega,fun H' gs' ins' s' st'=>?_⟩
    walk_at "go"
    exact ⟨gs',ins',_,rfl,s',st'⟩
   ·walk_at "go"
    exact ⟨gs,ins,_,rfl,sG,st.up (Nat.le_succ _)⟩
  rintro σ G ⟨gs,ins,o5,rfl,sG,st⟩
  have hn40:((m:Int) - 2).toNat<=40/\((m:Int) - 2).toNat<=m:=by omega
  generalize ((m:Int) - 2).toNat=nn at st hn40
  obtain ⟨⟨vi,u,hd,hi⟩,ne,⟨fd,ff,fk⟩,⟨xs,hxs,px⟩,hkn,wf,nm,le⟩:=id st
  walk_at "gos"
  refine aUy ?_
  refine aMt ?_
  refine aQz (fun σ G=>∃ gsF nF,σ=[some (.ref a),some (.int 2),some (.int (m:Int)),some (.ref ln),some (.ref dd),o5]/\aAm H1 G/\StI H1 G dd lf lk U gsF none nF/\nF<=m+2) ?_ ?_
  ·rintro σ GF ⟨gsF,nF,rfl,sF,stF,hnF⟩
   have gqF:=stF.gq
   obtain ⟨⟨viF,uF,hdF,hiF⟩,neF,⟨fdF,ffF,fkF⟩,⟨xsF,hxsF,pxF⟩,hknF,wfF,nmF,leF⟩:=id stF
   have hlnF:=sF _ _ hln
   walk_at "go"
   refine aDl (.inl hdF) aEp ?_
   walk_at "go"
   refine aA2 fun le9 hle9=>?_
   have s9:=aAm.new (o:=.lst []) hle9
   have g9:=aAd (H:=GF) (a:=le9) (o:=.lst [])
   generalize L2.upd GF le9 (.lst [])=G9 at s9 g9 ⊢
   refine e_gs0 (gqF.sm s9) g9 ?_
   have sF9:=sF.trans s9
   have hdF9:=s9 _ _ hdF
   have hxs9:=s9 _ _ hxsF
   by_cases hg0:gsF=[]
   ·rw [show gsF.isEmpty=true by rw [hg0]; rfl]
    walk_at "go"
    refine aDl (.inl hdF9) aEp ?_
    walk_at "go"
    refine aBa (s9 _ _ hlnF) e0 ?_
    walk_at "go"
    refine aBa (s9 _ _ hlnF) e1 ?_
    walk_at "go"
    refine aBr fun pt hpt=>?_
    have v1:=aAm.new (o:=.tup [.int 1,.int 1]) hpt
    have w1:=aAd (H:=G9) (a:=pt) (o:=.tup [.int 1,.int 1])
    generalize L2.upd G9 pt (.tup [.int 1,.int 1])=J1 at v1 w1 ⊢
    walk_at "go"
    refine aBr fun pr hpr=>?_
    have v12:=aAm.new (o:=.tup [.str "run",.str n0,.str n1,.ref pt]) hpr
    have w2:=aAd (H:=J1) (a:=pr) (o:=.tup [.str "run",.str n0,.str n1,.ref pt])
    generalize L2.upd J1 pr (.tup [.str "run",.str n0,.str n1,.ref pt])=J2 at v12 w2 ⊢
    have v2:=v1.trans v12
    have rq0:aBp J2 (.ref pr) (.plain (.run n0 n1 (Rat.divInt 1 1))):=⟨pr,_,rfl,w2,(FrQ.of2 (by decide) (by decide) w1).tk v12.tk⟩
    walk_at "go"
    have hxs2:=v2 _ _ (s9 _ _ hxsF)
    refine aJ3 hxs2 (by have:=Paired.length pxF; rw [hg0] at this; rw [this]; decide) ?_
    have kF:Kp lf J2 (L2.upd J2 lf (.lst (xsF++[.ref pr]))):=Kp.upd
    have tkF:=TK.lst (o:=.lst (xsF++[.ref pr])) hxs2
    have gF:=aAd (H:=J2) (a:=lf) (o:=.lst (xsF++[.ref pr]))
    generalize L2.upd J2 lf (.lst (xsF++[.ref pr]))=J3 at kF tkF gF ⊢
    have ndf:lf≠dd:=fun e=>by rw [e,hdF] at hxsF; cases hxsF
    have hdJ:=kF _ _ ndf.symm (v2 _ _ hdF9)
    walk_at "go"
    refine aDl (.inl hdJ) aEp ?_
    walk_at "go"
    refine q lf J3 [.one (.plain (.run n0 n1 (Rat.divInt 1 1)))] (s1.trans fun b o h=>kF _ _ (aAg h ffF) (v2 _ _ (s9 _ _ (sF _ _ h)))) (s1.free ffF) ⟨_,gF,?_⟩ ⟨⟨okr,trivial⟩,(by show 1<=60; decide),(by show 1<=60; decide)⟩ (List.cons_ne_nil _ _) (by show 1<=m+2; omega)
    have:xsF=[]:=List.length_eq_zero_iff.mp (by rw [Paired.length pxF,hg0]; rfl)
    rw [this]
    exact .cons (rq0.tk tkF) .nil
   ·rw [show gsF.isEmpty=false by cases e:gsF with | nil=>exact absurd e hg0 | cons a b=>rfl]
    walk_at "go"
    refine aDl (.inl hdF9) aEp ?_
    walk_at "go"
    exact q lf G9 gsF (s1.trans sF9) (s1.free ffF) (gqF.sm s9) (stF.built hU8 (by omega)) hg0 (by have:lnN gsF+0<=nF:=leF; omega)
  ·intro NX hNX
   have hlnG:=sG _ _ hln
   walk_at "go"
   refine aDl (.inl hd) aD8 ?_
   cases ins with
   | none =>
    cases (show vi=.non from hi)
    walk_at "go"
    exact hNX _ _ ⟨gs,nn,rfl,sG,st,by omega⟩
   | some x =>
    obtain ⟨⟨li,qa,ls,ys,rfl,hli,hqa,hls,prs,f1,f2,n1',n2,n3,n4,n5⟩,inm,inw,ind',ile,iwf,ipb⟩:=(show aX3 H1 G dd lf lk U (aFv [] gs) vi x from hi)
    have le2:lnN gs+(x.2.2.length+1)<=nn:=le
    have hdl:∀ {b:Addr} {zs:List V},G b=some (.lst zs)->b≠dd:=fun h e=>by rw [e,hd] at h; cases h
    walk_at "go"
    refine aDl (.inl hd) aD8 ?_
    walk_at "go"
    refine aA2 fun le1 hle1=>?_
    have sX:=aAm.new (o:=.lst []) hle1
    have ge:=aAd (H:=G) (a:=le1) (o:=.lst [])
    generalize L2.upd G le1 (.lst [])=GX at sX ge ⊢
    refine e_rs0 (sX _ _ hls) (Pd.imp prs fun v b f=>f.tk sX.tk) ge ?_
    by_cases hr0:x.2.2=[]
    ·rw [show x.2.2.isEmpty=true by rw [hr0]; rfl]
     walk_at "go"
     refine aDl (.inl (sX _ _ hd)) aD8 ?_
     have hliX:=sX _ _ hli
     have hlsX:=sX _ _ hls
     walk_at "go"
     refine aBa (sX _ _ hlnG) e0 ?_
     walk_at "go"
     refine aBa (sX _ _ hlnG) e1 ?_
     walk_at "go"
     refine aBr fun pt hpt=>?_
     have v1:=aAm.new (o:=.tup [.int 1,.int 1]) hpt
     have w1:=aAd (H:=GX) (a:=pt) (o:=.tup [.int 1,.int 1])
     generalize L2.upd GX pt (.tup [.int 1,.int 1])=J1 at v1 w1 ⊢
     walk_at "go"
     refine aBr fun pr hpr=>?_
     have v12:=aAm.new (o:=.tup [.str "run",.str n0,.str n1,.ref pt]) hpr
     have w2:=aAd (H:=J1) (a:=pr) (o:=.tup [.str "run",.str n0,.str n1,.ref pt])
     generalize L2.upd J1 pr (.tup [.str "run",.str n0,.str n1,.ref pt])=J2 at v12 w2 ⊢
     have v2:=v1.trans v12
     have rq0:aBp J2 (.ref pr) (.plain (.run n0 n1 (Rat.divInt 1 1))):=⟨pr,_,rfl,w2,(FrQ.of2 (by decide) (by decide) w1).tk v12.tk⟩
     walk_at "go"
     have hls2:=v2 _ _ hlsX
     have hyl:=Paired.length prs
     refine aJ3 hls2 (by rw [hyl,hr0]; decide) ?_
     have k4':Kp ls J2 (L2.upd J2 ls (.lst (ys++[.ref pr]))):=Kp.upd
     have tk4:=TK.lst (o:=.lst (ys++[.ref pr])) hls2
     have g4:=aAd (H:=J2) (a:=ls) (o:=.lst (ys++[.ref pr]))
     generalize L2.upd J2 ls (.lst (ys++[.ref pr]))=G4 at k4' tk4 g4 ⊢
     have u2:=sX.trans v2
     have tkX:=u2.tk.trans tk4
     have hy0:ys=[]:=List.length_eq_zero_iff.mp (by rw [hyl,hr0]; rfl)
     have st4:StI H1 G4 dd lf lk U gs (some (x.1,x.2.1,[.plain (.run n0 n1 (Rat.divInt 1 1))])) (nn+1):=by
      refine ⟨⟨_,_,k4' _ _ (hdl hls).symm (u2 _ _ hd),⟨⟨li,qa,ls,_,rfl,k4' _ _ n3 (u2 _ _ hli),tkX _ _ hqa,g4,?_,f1,f2,n1',n2,n3,n4,n5⟩,inm,inw,ind',ile,(fun r hr=>?_),ipb⟩⟩,ne,⟨fd,ff,fk⟩,⟨xs,k4' _ _ n4.symm (u2 _ _ hxs),Pd.imp px fun v b f=>f.tk tkX⟩,?_,wf,nm,?_⟩
      ·rw [hy0]
       exact .cons (rq0.tk tk4) .nil
      ·rw [List.mem_singleton.mp hr]
       exact okr
      ·obtain ⟨ks,hks,pk⟩:=hkn
       exact ⟨ks,k4' _ _ n5.symm (u2 _ _ hks),Pd.imp pk fun v b ⟨a,e,f⟩=>⟨a,e,tkX _ _ f⟩⟩
      ·show lnN gs+(1+1)<=_
       omega
     walk_at "go"
     refine ⟨dd,lf,lk,U,gs,_,H1,nn+1,rfl,fun b o h=>k4' _ _ (aAg h f2) (u2 _ _ (sG _ _ h)),st4,List.cons_ne_nil _ _,by omega,fun H' s' st2=>?_⟩
     walk_at "go"
     exact hNX _ _ ⟨_,_,rfl,s',st2,by omega⟩
    ·rw [show x.2.2.isEmpty=false by cases e:x.2.2 with | nil=>exact absurd e hr0 | cons a b=>rfl]
     walk_at "go"
     refine ⟨dd,lf,lk,U,gs,x,H1,nn,rfl,sG.trans sX,st.sm sX,hr0,by omega,fun H' s' st2=>?_⟩
     walk_at "go"
     exact hNX _ _ ⟨_,_,rfl,s',st2,by omega⟩
set_option maxHeartbeats 0 in
theorem aW0 (T:Bl mg) (d:Df K mg "_law_text" aQr ["_law_rows"]  ) (W:XmS mg xt x0 x1 x4 x5 x10) (R_NoText:XrS K xt x0 x1 x4 x5 x10 x5 5) (o_row_texts:Okf P w K mg base k "_law_row_texts" ["_law_row_here"] (aMl K)):Okf P w K mg base (k+1) "_law_text" ["_law_rows"] (aNx K):=by
 refine Okf.of d aJp (fun vs H Q E h=>?_) (fun f cdv A outer s H vs Q E hr h=>?_)
 ·obtain ⟨l,gs,rfl,_⟩:=h
  rfl
 ·obtain ⟨l,gs,rfl,hl,hb,hn,q⟩:=h
  refine ⟨_,(@aAe _ _ _ _ _ (@aAp _ _ (i:=1) _ _ _ _ aJp.nd rfl (by first | exact Or.inl rfl | exact Or.inr rfl) (@aA4 _ _ _ _ (@aAc _)) (by rfl) (by first | exact .inl rfl | exact .inr rfl | assumption)) (@aAe _ _ _ _ _ (@aDq _ _ _ _ _ _ _ _ PassesOwn.never rfl (@aCb _ _ _ _ (pv 0)) (@aAx _ _ (i:=2) _ aJp.nd rfl (by first | exact Or.inl rfl | exact Or.inr rfl) (by first | exact .inl rfl | exact .inr rfl | assumption)) (@aAf _ _ _ (@aAp _ _ (i:=1) _ _ _ _ aJp.nd rfl (by first | exact Or.inl rfl | exact Or.inr rfl) (@aAj _ _ _ _ _ _ _ _ aAs (pv 1) (@aAn _ _ _ _ _ _ _ _ _ _ o_row_texts hr rfl (@aAa _ _ _ _ _ (pv 2) (@aAc _) (by rfl)) (by decide) (by rfl) (by rfl))) (by rfl) (by first | exact .inl rfl | exact .inr rfl | assumption))) (by intro _; rfl)) (@aAf _ _ _ (@aAq _ _ _ _ (@aB4 _ _ _ _ _ _ _ _ _ _ _ _ PySem.F.plainAttrs_str PySem.F.slot_str_join PySem.F.type_str_join aE8 (@aAi _ _ _ _) (@aAa _ _ _ _ _ (pv 1) (@aAc _) (by rfl)) (by rfl) (by rfl) (by rfl) (by rfl) (by rfl)))))),?_⟩
  obtain ⟨xs,hxs,px⟩:=hl
  have hxl:=Paired.length px
  have hll:=aEi gs
  walk_at "go"
  refine aA2 fun l0 hl0=>?_
  have s0:=aAm.new (o:=.lst []) hl0
  have g0:=aAd (H:=H) (a:=l0) (o:=.lst [])
  generalize L2.upd H l0 (.lst [])=H0 at s0 g0 ⊢
  walk_at "go"
  refine aCa (SqL.of (s0 _ _ hxs)) ?_
  refine aUz (xs:=xs) (fun i σ G=>∃ (E:List aBf) (o2:Option V) (lf:Addr),σ=[some (.ref l),some (.ref lf),o2]/\aAm H G/\H lf=none/\G lf=some (.lst (((gs.take i).flatMap aBu).map lnV))/\WfE E/\WfG E (gs.drop i)) ⟨[],_,_,rfl,s0,hl0,g0,trivial,hb.wf⟩ ?_ ?_ ?_
  ·rintro i σ G _ ⟨E,o2,lf,rfl,sG,_⟩
   exact SqL.of (sG _ _ hxs)
  ·rintro i y σ G hy ⟨E,o2,lf,rfl,sG,hlf,glf,hE,hW⟩
   obtain ⟨g,hg,gq⟩:=Paired.at px hy
   rw [aEl hg] at hW
   have tk1:gs.take (i+1)=gs.take i++[g]:=by rw [List.take_add_one,hg]; rfl
   have hd:WfG E [g]/\∃ E',WfE E'/\WfG E' (gs.drop (i+1)):=by
    cases g with
    | one r=>exact ⟨⟨hW.1,trivial⟩,E,hE,hW.2⟩
    | piece p=>exact ⟨⟨hW.1,trivial⟩,p::E,⟨hW.1,hE⟩,hW.2⟩
   obtain ⟨hd,E',hE',hW'⟩:=hd
   have cnt:((gs.take i).flatMap aBu).length+(aBu g).length<=(gs.flatMap aBu).length:=by
    have e:=congrArg List.length (gs_at hg)
    rw [List.length_drop,List.length_append] at e
    have e2:=congrArg (fun l=>(List.flatMap aBu l).length) (List.take_append_drop i gs)
    simp only [List.flatMap_append,List.length_append] at e2
    omega
   walk_at "go"
   refine ⟨y,g,E,rfl,aEw.tk gq sG.tk,hd,hE,fun l4 G4 hl4 t4 g4=>?_⟩
   refine aUj (t4 _ _ glf) g4 (by rw [List.length_map,List.length_map]; omega) fun l5 hl5=>?_
   have t5:=sG.trans t4
   walk_at "go"
   refine ⟨E',_,l5,rfl,t5.trans (aAm.new hl5),t5.free hl5,?_,hE',hW'⟩
   rw [aAd,tk1,List.flatMap_append,List.map_append]
   simp
  rintro σ G ⟨E,o2,lf,rfl,sG,hlf,glf,_⟩
  rw [hxl,List.take_length] at glf
  have glf2:G lf=some (.lst (((gs.flatMap aBu).map (Str.join sp1)).map V.str)):=by rw [glf,List.map_map]; rfl
  walk_at "go"
  refine ⟨_,lf,_,rfl,rfl,glf2,(aRr hb hn).1,?_⟩
  walk_at "go"
  exact q G sG
theorem aPk (T:Bl mg) (d:Df K mg "_law_is_name" aHp ["_law_word_here"]  ) (W:XmS mg xt x0 x1 x4 x5 x10) (R_NoText:XrS K xt x0 x1 x4 x5 x10 x5 5):Okf P w K mg base (k+1) "_law_is_name" ["_law_word_here"] aEq:=by
 refine Okf.of d aI2 (fun vs H Q E h=>?_) (fun f cdv A outer s H vs Q E hr h=>?_)
 ·obtain ⟨z,rfl,_⟩:=h
  rfl
 ·obtain ⟨z,rfl,hz,q⟩:=h
  refine ⟨_,(@aAe _ _ _ _ _ (@aDq _ _ _ _ _ _ _ _ PassesOwn.never rfl (@aG4 _ _ _ _ (pv 0)) (@aAx _ _ (i:=1) _ aI2.nd rfl (by first | exact Or.inl rfl | exact Or.inr rfl) (by first | exact .inl rfl | exact .inr rfl | assumption)) (@aAf _ _ _ (@aA6 _ _ _ _ _ _ _ _ (@aAl _ _ _ _ _ _ _ _ aOl (pv 1) (@aAi _ _ _ _) (by with_unfolding_all rfl)) (@aAf _ _ _ (@aAq _ _ _ _ (@aJ7 _ _ _ _))) (@aAu _))) (by intro _; rfl)) (@aAf _ _ _ (@aAq _ _ _ _ (@aG5 _ _ _ _ _ _ _ _ _ _ _ _ aF6 aF6 (@aAb _ _ _ _) (@aAk _ _ _ _ _ _ _ _ _ aBo rfl T.z_len aAz (@aAa _ _ _ _ _ (pv 0) (@aAc _) (by rfl)) (by decide) (by decide) (by rfl) (by rfl)) (@aAb _ _ _ _) (by with_unfolding_all rfl))))),?_⟩
  have hzs:z.length<=sizeLine:=by rw [sizeLine_eq]; omega
  have ep:aA3 z=((decide (1<=z.length)&&decide (z.length<=8))&&z.cps.toList.all fun c=>decide (97<=c)&&decide (c < 123)):=rfl
  walk_at "go"
  refine ⟨z,rfl,?_⟩
  refine aQw (fun i σ G=>∃ o1:Option V,σ=[some (.str z),o1]/\G=H/\(z.cps.toList.take i).all (fun c=>decide (97<=c)&&decide (c < 123))=true) ⟨_,rfl,rfl,rfl⟩ ?_ ?_
  ·rintro i c σ G hc ⟨o1,rfl,rfl,ha⟩
   walk_at "go"
   refine aQu ?_
   rw [aH1]
   cases hl:decide (97<=c)&&decide (c < 123) with
   | false =>
    walk_at "go"
    have e:z.cps.toList.all (fun c=>decide (97<=c)&&decide (c < 123))=false:=by
     rw [List.all_eq_false]
     exact ⟨c,List.mem_of_getElem? hc,by rw [hl]; decide⟩
    rw [ep,e,Bool.and_false] at q
    exact q _ (aAm.refl _)
   | true =>
    walk_at "go"
    refine ⟨_,rfl,rfl,?_⟩
    rw [aCr hc,List.all_append,ha,List.all_cons,hl]
    rfl
  rintro σ G ⟨o1,rfl,rfl,ha⟩
  rw [aBt,List.take_length] at ha
  rw [ep,ha,Bool.and_true] at q
  walk_at "go"
  refine aI4 hzs ?_
  walk_at "go"
  refine i_d (fun c1=>?_) (fun c1=>?_)
  ·walk_at "go"
   rw [decide_eq_true (show 1<=z.length by omega),Bool.true_and,show decide (z.length<=8)=decide ((z.length:Int)<=8) from decide_eq_decide.mpr (by omega)] at q
   exact q _ (aAm.refl _)
  ·rw [decide_eq_false (show ¬ 1<=z.length by omega),Bool.false_and] at q
   exact q _ (aAm.refl _)
theorem aLp (T:Bl mg) (d:Df K mg "_law_is_post" aD0 ["_law_word_here"]  ) (W:XmS mg xt x0 x1 x4 x5 x10) (R_NoText:XrS K xt x0 x1 x4 x5 x10 x5 5) (o_is_name:Okf P w K mg base k "_law_is_name" ["_law_word_here"] aEq):Okf P w K mg base (k+1) "_law_is_post" ["_law_word_here"] aIx:=by
 refine Okf.of d aGh (fun vs H Q E h=>?_) (fun f cdv A outer s H vs Q E hr h=>?_)
 ·obtain ⟨z,rfl,_⟩:=h
  rfl
 ·obtain ⟨z,rfl,hz,q⟩:=h
  refine ⟨_,(@aAe _ _ _ _ _ (@aAp _ _ (i:=1) _ _ _ _ aGh.nd rfl (by first | exact Or.inl rfl | exact Or.inr rfl) (@aB4 _ _ _ _ _ _ _ _ _ _ _ _ PySem.F.plainAttrs_str PySem.F.slot_str_split PySem.F.type_str_split aCu (pv 0) (@aAa _ _ _ _ _ (@aAi _ _ _ _) (@aAc _) (by rfl)) (by rfl) (by rfl) (by rfl) (by rfl) (by rfl)) (by rfl) (by first | exact .inl rfl | exact .inr rfl | assumption)) (@aAf _ _ _ (@aAq _ _ _ _ (@aEg _ _ _ _ _ _ _ (@aB3 _ _ _ _ _ _ _ _ aQ9 (@aAk _ _ _ _ _ _ _ _ _ aBo rfl T.z_len aAz (@aAa _ _ _ _ _ (pv 1) (@aAc _) (by rfl)) (by decide) (by decide) (by rfl) (by rfl)) (@aAb _ _ _ _) (aAo _)) (@aFl _ _ _ _ _ (@aB3 _ _ _ _ _ _ _ _ (aA0 hr.units) (@aC8 _ _ _ _ _ _ _ _ _ _ _ _ _ _ (@aB7 _ _ (sc:=aAh aD0) (N:=["_law_word_here","_law_parts"]) (tn:=["_law_part"]) (names:=[]) (is:=[]) rfl rfl (by decide +kernel) (by decide +kernel) rfl (by decide +kernel) rfl (by decide +kernel) (by decide +kernel) (by decide +kernel)) rfl (@aCb _ _ _ _ (pv 1)) (fun _ _ _ _=>(@aAx _ _ (i:=0) _ (show (["_law_part"]:List Str).Nodup by decide +kernel) rfl (Or.inl rfl) (Or.inr rfl))) (fun _ _ _ _=>(pv 0)) (fun _ _ _ _=>(@aJ4 _ _ _ (@aC7 _ _ _ _ (@aCq _ _ _ (@aAn _ _ _ _ _ _ _ _ _ _ o_is_name hr rfl (@aAa _ _ _ _ _ (pv 0) (@aAc _) (by rfl)) (by decide) (by rfl) (by rfl)) (by intro _; rfl))))) (by intro _; rfl)) (@aA4 _ _ _ _ (@aAc _)) (aAo _))))))),?_⟩
  walk_at "go"
  have ep:(".":Str)=⟨#[46]⟩:=by decide +kernel
  rw [ep]
  refine aDk (z:=z) (y:=⟨#[46]⟩) (by decide) (by omega) fun l hl=>?_
  have hps:=aF4 z
  have hsh:∀ p∈Txt.split z ⟨#[46]⟩,p.length<=200000:=fun p hp=>Nat.le_trans (aDw hp) hz
  have hsl:=aIu z ⟨#[46]⟩
  generalize Txt.split z ⟨#[46]⟩=ps at hps hsh hsl ⊢
  have hml:(ps.map V.str).length=ps.length:=List.length_map _
  have s1:=aAm.new (o:=.lst (ps.map V.str)) hl
  have g1:=aAd (H:=H) (a:=l) (o:=.lst (ps.map V.str))
  generalize L2.upd H l (.lst (ps.map V.str))=H1 at s1 g1 ⊢
  walk_at "go"
  refine i_d (fun c=>?_) (fun c=>?_)
  rotate_left
  ·walk_at "go"
   rw [decide_eq_false (show ¬ ps.length<=4 by omega),Bool.false_and] at hps
   rw [hps] at q
   exact q _ s1
  rw [decide_eq_true (show ps.length<=4 by omega),Bool.true_and] at hps
  walk_at "go"
  refine aCa (SqL.of g1) ?_
  refine aOg (p:=fun p=>!aA3 p) g1 (by omega) ?_ ?_ ?_
  ·intro w hw G R k
   walk_at "go"
   refine ⟨w,rfl,hsh w hw,fun G1 t1=>?_⟩
   walk_at "go"
   exact k _ t1
  ·intro w G R k
   walk_at "go"
   exact k
  intro l2 G hl2 s2 g2
  walk_at "go"
  refine aA2 fun l9 hl9=>?_
  have s9:=aAm.new (o:=.lst []) hl9
  have g9:=aAd (H:=G) (a:=l9) (o:=.lst [])
  generalize L2.upd G l9 (.lst [])=G9 at s9 g9 ⊢
  walk_at "go"
  refine aGl (xs:=ps.filter fun p=>!aA3 p) (ys:=[]) (s9 _ _ g2) g9 ?_
  have e4:decide ((ps.filter fun p=>!aA3 p)=[])=ps.all aA3:=by
   rw [Bool.eq_iff_iff,decide_eq_true_iff,List.filter_eq_nil_iff,List.all_eq_true]
   exact forall_congr' fun p=>forall_congr' fun _=>by cases aA3 p <;> decide
  rw [e4,← hps]
  walk_at "go"
  exact q _ ((s1.trans s2).trans s9)
theorem aPl (T:Bl mg) (d:Df K mg "_law_figures" aHq ["_law_word_here"]  ) (W:XmS mg xt x0 x1 x4 x5 x10) (R_NoText:XrS K xt x0 x1 x4 x5 x10 x5 5):Okf P w K mg base (k+1) "_law_figures" ["_law_word_here"] aHf:=by
 refine Okf.of d aI3 (fun vs H Q E h=>?_) (fun f cdv A outer s H vs Q E hr h=>?_)
 ·obtain ⟨z,rfl,_⟩:=h
  rfl
 ·obtain ⟨z,rfl,hz,q⟩:=h
  refine ⟨_,(@aAe _ _ _ _ _ (@aDq _ _ _ _ _ _ _ _ PassesOwn.never rfl (@aG4 _ _ _ _ (pv 0)) (@aAx _ _ (i:=1) _ aI3.nd rfl (by first | exact Or.inl rfl | exact Or.inr rfl) (by first | exact .inl rfl | exact .inr rfl | assumption)) (@aAf _ _ _ (@aA6 _ _ _ _ _ _ _ _ (@aAl _ _ _ _ _ _ _ _ aOl (pv 1) (@aAi _ _ _ _) (by with_unfolding_all rfl)) (@aAf _ _ _ (@aAq _ _ _ _ (@aBj _ _ _))) (@aAu _))) (by intro _; rfl)) (@aAe _ _ _ _ _ (@aA6 _ _ _ _ _ _ _ _ (@PW.pt _ _ _ (@aHs _ _ _ _ _ _ _ (@aC7 _ _ _ _ (@aOi _ _ _ _ _ _ _ _ _ _ _ _ aF6 aF6 (@aAb _ _ _ _) (@aAk _ _ _ _ _ _ _ _ _ aBo rfl T.z_len aAz (@aAa _ _ _ _ _ (pv 0) (@aAc _) (by rfl)) (by decide) (by decide) (by rfl) (by rfl)) (@aAb _ _ _ _) (by with_unfolding_all rfl))) (@aGj _ _ _ _ (@aAl _ _ _ _ _ _ _ _ (aA0 hr.units) (@aAr _ _ _ _ _ _ _ aAt (pv 0) (@aAb _ _ _ _) (fun _ _=>rfl)) (@aAi _ _ _ _) (aAo _))))) (@aAf _ _ _ (@aAq _ _ _ _ (@aBj _ _ _))) (@aAu _)) (@aAf _ _ _ (@aAq _ _ _ _ (@aA8 _ _ _ _ _ _ _ _ _ aO0 rfl T.z_int aJf (@aAa _ _ _ _ _ (pv 0) (@aAc _) (by rfl)) (by decide) (by decide) (by rfl) (by rfl)))))),?_⟩
  have hzs:z.length<=sizeLine:=by rw [sizeLine_eq]; omega
  have ew:aCi z=((decide (1<=z.length)&&decide (z.length<=12))&&(z.cps.toList.all aOv&&bBx z)):=rfl
  walk_at "go"
  refine ⟨z,rfl,?_⟩
  refine aQw (fun i σ G=>∃ o1:Option V,σ=[some (.str z),o1]/\G=H/\(z.cps.toList.take i).all aOv=true) ⟨_,rfl,rfl,rfl⟩ ?_ ?_
  ·rintro i c σ G hc ⟨o1,rfl,rfl,ha⟩
   walk_at "go"
   refine aQu ?_
   rw [aIa]
   cases hl:decide (48<=c)&&decide (c < 58) with
   | false =>
    walk_at "go"
    have e:z.cps.toList.all aOv=false:=by
     rw [List.all_eq_false]
     exact ⟨c,List.mem_of_getElem? hc,by unfold aOv; rw [hl]; decide⟩
    rw [aFt (by rw [ew,e,Bool.false_and,Bool.and_false])] at q
    exact q _ (aAm.refl _)
   | true =>
    walk_at "go"
    refine ⟨_,rfl,rfl,?_⟩
    rw [aCr hc,List.all_append,ha,List.all_cons]
    unfold aOv
    rw [hl]
    rfl
  rintro σ G ⟨o1,rfl,rfl,ha⟩
  rw [aBt,List.take_length] at ha
  rw [ha,Bool.true_and] at ew
  walk_at "go"
  refine aI4 hzs ?_
  walk_at "go"
  refine i_d (fun c1=>?_) (fun c1=>?_)
  rotate_left
  ·rw [aFt (by rw [ew,decide_eq_false (show ¬ 1<=z.length by omega),Bool.false_and,Bool.false_and])] at q
   walk_at "go"
   exact q _ (aAm.refl _)
  walk_at "go"
  refine i_d (fun c2=>?_) (fun c2=>?_)
  rotate_left
  ·rw [aFt (by rw [ew,decide_eq_false (show ¬ z.length<=12 by omega),Bool.and_false,Bool.false_and])] at q
   walk_at "go"
   exact q _ (aAm.refl _)
  rw [decide_eq_true (show 1<=z.length by omega),decide_eq_true (show z.length<=12 by omega),Bool.true_and,Bool.true_and] at ew
  obtain ⟨c0,r0,e0⟩:∃ c r,z.cps.toList=c::r:=by
   cases e:z.cps.toList with
   | nil =>
    have:=aBt z
    rw [e] at this
    simp at this
    omega
   | cons c r=>exact ⟨c,r,rfl⟩
  have ew2:aCi z=decide (c0≠48):=by
   rw [ew]
   unfold bBx
   rw [e0]
  walk_at "go"
  refine aTg (by omega) (c:=c0) (by rw [e0]; exact (show atI (c0::r0) ((0:Nat):Int)=some c0 from aA7 rfl)) ?_
  walk_at "go"
  have e5:((⟨#[c0]⟩:Str)==Str.ofString "0")=decide (c0=48):=by
   rw [show Str.ofString "0"=⟨#[48]⟩ by decide +kernel]
   by_cases h:c0=48
   ·subst h
    rfl
   ·rw [decide_eq_false h,beq_eq_false_iff_ne.mpr fun z=>h (by simpa using z)]
  rw [e5]
  refine i_d (fun c3=>?_) (fun c3=>?_)
  ·rw [aFt (by rw [ew2]; exact decide_eq_false fun h=>h c3)] at q
   walk_at "go"
   exact q _ (aAm.refl _)
  have hwr:aCi z=true:=by rw [ew2]; exact decide_eq_true c3
  rw [aFs hwr] at q
  walk_at "go"
  refine ⟨_,aBn z,rfl,(aEn hwr).1,by omega,?_⟩
  walk_at "go"
  exact q _ (aAm.refl _)
set_option maxHeartbeats 0 in
theorem aPf (T:Bl mg) (d:Df K mg "_law_time_of" aFf ["_law_word_here"]  ) (W:XmS mg xt x0 x1 x4 x5 x10) (R_NoText:XrS K xt x0 x1 x4 x5 x10 x5 5) (o_lowest:Okf P w K mg base k "_law_lowest" ["_law_top","_law_bottom"] aJk) (o_figures:Okf P w K mg base k "_law_figures" ["_law_word_here"] aHf):Okf P w K mg base (k+1) "_law_time_of" ["_law_word_here"] aIv:=by
 refine Okf.of d aIz (fun vs H Q E h=>?_) (fun f cdv A outer s H vs Q E hr h=>?_)
 ·obtain ⟨z,rfl,_⟩:=h
  rfl
 ·obtain ⟨z,rfl,hz,q1,q2⟩:=h
  refine ⟨_,(@aAe _ _ _ _ _ (@aHt _ _ _ _ _ _ _ _ _ _ _ _ _ _ (i:=1) _ _ _ aIz.nd rfl (by first | exact Or.inl rfl | exact Or.inr rfl) (@aB7 _ _ (sc:=aAh aFf) (N:=["_law_word_here","_law_parts"]) (tn:=["_law_part"]) (names:=[]) (is:=[]) rfl rfl (by decide +kernel) (by decide +kernel) rfl (by decide +kernel) rfl (by decide +kernel) (by decide +kernel) (by decide +kernel)) rfl (@aCb _ _ _ _ (@aB4 _ _ _ _ _ _ _ _ _ _ _ _ PySem.F.plainAttrs_str PySem.F.slot_str_split PySem.F.type_str_split aCu (pv 0) (@aAa _ _ _ _ _ (@aAi _ _ _ _) (@aAc _) (by rfl)) (by rfl) (by rfl) (by rfl) (by rfl) (by rfl))) (fun _ _ _ _=>(@aAx _ _ (i:=0) _ (show (["_law_part"]:List Str).Nodup by decide +kernel) rfl (Or.inl rfl) (Or.inr rfl))) (fun _ _ _ _=>(@aAn _ _ _ _ _ _ _ _ _ _ o_figures hr rfl (@aAa _ _ _ _ _ (pv 0) (@aAc _) (by rfl)) (by decide) (by rfl) (by rfl))) (fun _ _ _ _=>(@aB9 _)) (by intro _; rfl) (by rfl) (by first | exact .inl rfl | exact .inr rfl | assumption)) (@aAe _ _ _ _ _ (@aA6 _ _ _ _ _ _ _ _ (@PW.pt _ _ _ (@aHs _ _ _ _ _ _ _ (@aAl _ _ _ _ _ _ _ _ aLk (@aBj _ _ _) (pv 1) (by with_unfolding_all rfl)) (@aHs _ _ _ _ _ _ _ (@aAl _ _ _ _ _ _ _ _ aJ8 (@aAk _ _ _ _ _ _ _ _ _ aBo rfl T.z_len aAz (@aAa _ _ _ _ _ (pv 1) (@aAc _) (by rfl)) (by decide) (by decide) (by rfl) (by rfl)) (@aAb _ _ _ _) (aAo _)) (@aGj _ _ _ _ (@PW.pt _ _ _ (@aCf _ _ _ _ _ _ _ (@aAl _ _ _ _ _ _ _ _ (aA0 hr.units) (@aAk _ _ _ _ _ _ _ _ _ aBo rfl T.z_len aAz (@aAa _ _ _ _ _ (pv 1) (@aAc _) (by rfl)) (by decide) (by decide) (by rfl) (by rfl)) (@aAb _ _ _ _) (aAo _)) (@aCl _ _ _ _ (@aAl _ _ _ _ _ _ _ _ (aA0 hr.units) (@aAr _ _ _ _ _ _ _ aAt (pv 1) (@aAb _ _ _ _) (fun _ _=>rfl)) (@aAb _ _ _ _) (aAo _))))))))) (@aAf _ _ _ (@aAq _ _ _ _ (@aBj _ _ _))) (@aAu _)) (@aAe _ _ _ _ _ (@aA6 _ _ _ _ _ _ _ _ (@PW.pt _ _ _ (@aCf _ _ _ _ _ _ _ (@aAl _ _ _ _ _ _ _ _ (aA0 hr.units) (@aAk _ _ _ _ _ _ _ _ _ aBo rfl T.z_len aAz (@aAa _ _ _ _ _ (pv 1) (@aAc _) (by rfl)) (by decide) (by decide) (by rfl) (by rfl)) (@aAb _ _ _ _) (aAo _)) (@aCl _ _ _ _ (@aAl _ _ _ _ _ _ _ _ (aD5 hr.units) (@aAn _ _ _ _ _ _ _ _ _ _ o_lowest hr rfl (@aAa _ _ _ _ _ (@aAr _ _ _ _ _ _ _ aAt (pv 1) (@aAb _ _ _ _) (fun _ _=>rfl)) (@aAa _ _ _ _ _ (@aAr _ _ _ _ _ _ _ aAt (pv 1) (@aAb _ _ _ _) (fun _ _=>rfl)) (@aAc _) (by rfl)) (by rfl)) (by decide) (by rfl) (by rfl)) (@aBy _ _ _ _ _ (@aAa _ _ _ _ _ (@aAr _ _ _ _ _ _ _ aAt (pv 1) (@aAb _ _ _ _) (fun _ _=>rfl)) (@aAa _ _ _ _ _ (@aAr _ _ _ _ _ _ _ aAt (pv 1) (@aAb _ _ _ _) (fun _ _=>rfl)) (@aAc _) (by rfl)) (by rfl))) (aAo _))))) (@aAf _ _ _ (@aAq _ _ _ _ (@aBj _ _ _))) (@aAu _)) (@aAf _ _ _ (@aAq _ _ _ _ (@aBy _ _ _ _ _ (@aAa _ _ _ _ _ (@aAr _ _ _ _ _ _ _ aAt (@aAj _ _ _ _ _ _ _ _ aAs (pv 1) (@aA4 _ _ _ _ (@aAa _ _ _ _ _ (@aAb _ _ _ _) (@aAc _) (by rfl)))) (@aAb _ _ _ _) (fun _ _=>rfl)) (@aAa _ _ _ _ _ (@aAr _ _ _ _ _ _ _ aAt (@aAj _ _ _ _ _ _ _ _ aAs (pv 1) (@aA4 _ _ _ _ (@aAa _ _ _ _ _ (@aAb _ _ _ _) (@aAc _) (by rfl)))) (@aAb _ _ _ _) (fun _ _=>rfl)) (@aAc _) (by rfl)) (by rfl)))))))),?_⟩
  have ep:("/":Str)=⟨#[47]⟩:=by decide +kernel
  have hsh:∀ p∈Txt.split z ⟨#[47]⟩,p.length<=200000:=fun p hp=>Nat.le_trans (aDw hp) hz
  have hne:=aDv z ⟨#[47]⟩
  have hsl:=aIu z ⟨#[47]⟩
  unfold tmO at q1 q2
  walk_at "go"
  rw [ep]
  refine aDk (z:=z) (y:=⟨#[47]⟩) (by decide) (by omega) fun l hl=>?_
  generalize Txt.split z ⟨#[47]⟩=ps at hsh hne hsl q1 q2 ⊢
  have s1:=aAm.new (o:=.lst (ps.map V.str)) hl
  have g1:=aAd (H:=H) (a:=l) (o:=.lst (ps.map V.str))
  generalize L2.upd H l (.lst (ps.map V.str))=H1 at s1 g1 ⊢
  have hml:(ps.map V.str).length=ps.length:=List.length_map _
  refine aCa (SqL.of g1) ?_
  refine aJ1 (xs:=ps.map V.str) (by omega) (fun acc i ys G=>Kp acc H1 G/\ys=((ps.take i).map aPr).map aQ7) (fun acc h0=>⟨Kp.new h0,rfl⟩) ?_ ?_ ?_
  ·intro acc i ys G h0 _ ⟨kp,_⟩
   exact SqL.of (kp _ _ (aAg g1 h0) g1)
  ·intro acc i ys G x h0 hx hyl hG ⟨kp,e⟩
   rw [List.getElem?_map] at hx
   cases hy:ps[i]? with
   | none=>rw [hy] at hx; cases hx
   | some y =>
    rw [hy] at hx
    cases (Option.some.inj hx:V.str y=x)
    walk_at "go"
    refine ⟨y,rfl,hsh y (List.mem_of_getElem? hy),fun G1 t1=>?_⟩
    have hi:i < ps.length:=(List.getElem?_eq_some_iff.mp hy).1
    refine aDu (by omega) hyl (t1 _ _ hG) ⟨Kp.trans (Kp.trans kp t1.kp) Kp.upd,?_⟩
    rw [aCr hy,List.map_append,List.map_append,← e]
    rfl
  intro acc ys G h0 hG hyl ⟨kp,e⟩
  rw [hml,List.take_length] at e
  subst e
  have sG:aAm H1 G:=fun b o h=>kp _ _ (aAg h h0) h
  have s2:=s1.trans sG
  have hol:((ps.map aPr).map aQ7).length=ps.length:=by rw [List.length_map,List.length_map]
  walk_at "go"
  refine r_inZ (os:=ps.map aPr) hG ?_
  have ea:(ps.map aPr).any (·.isNone)=!ps.all aCi:=by
   rw [List.any_map,List.not_all_eq_any_not]
   congr 1
   funext p
   show (aPr p).isNone=!aCi p
   cases hw:aCi p with
   | true=>rw [aFs hw]; rfl
   | false=>rw [aFt hw]; rfl
  rw [ea]
  cases hw:ps.all aCi with
  | false =>
   walk_at "go"
   exact q2 (aUo hw) _ s2
  | true =>
  rw [List.all_eq_true] at hw
  walk_at "go"
  by_cases h2:2 < ps.length
  ·walk_at "go"
   exact q2 (aP6 h2) _ s2
  by_cases hd:ps.length=1
  ·obtain ⟨a,rfl⟩:∃ a,ps=[a]:=List.length_eq_one_iff.mp hd
   have hwa:=hw a (by simp)
   replace hG:G acc=some (.lst [.int (aBn a)]):=by
    rw [hG]
    show some (HO.lst [aQ7 (aPr a)])=_
    rw [aFs hwa]
    rfl
   have hol1:(List.map aQ7 (List.map aPr [a])).length=1:=rfl
   have hol2:([V.int (aBn a)]:List V).length=1:=rfl
   have en1:decide ((([V.int (aBn a)]:List V).length:Int)=2)=false:=rfl
   walk_at "go"
   refine aA2 fun l3 hl3=>?_
   have s3:=aAm.new (o:=.lst [.int 1]) hl3
   have g3:=aAd (H:=G) (a:=l3) (o:=.lst [.int 1])
   generalize L2.upd G l3 (.lst [.int 1])=G3 at s3 g3 ⊢
   refine aGm (s3 _ _ hG) g3 (by show 2<=1000000; decide) fun l4 hl4=>?_
   have s4:=aAm.new (o:=.lst ([.int (aBn a)]++[.int 1])) hl4
   have g4:=aAd (H:=G3) (a:=l4) (o:=.lst ([.int (aBn a)]++[.int 1]))
   generalize L2.upd G3 l4 (.lst ([.int (aBn a)]++[.int 1]))=G4 at s4 g4 ⊢
   replace g4:G4 l4=some (.lst [.int (aBn a),.int 1]):=g4
   walk_at "go"
   refine aA2 fun l5 hl5=>?_
   have s5:=aAm.new (o:=.lst [.int 1]) hl5
   have g5:=aAd (H:=G4) (a:=l5) (o:=.lst [.int 1])
   generalize L2.upd G4 l5 (.lst [.int 1])=G5 at s5 g5 ⊢
   refine aGm (s5 _ _ (s4 _ _ (s3 _ _ hG))) g5 (by show 2<=1000000; decide) fun l6 hl6=>?_
   have s6:=aAm.new (o:=.lst ([.int (aBn a)]++[.int 1])) hl6
   have g6:=aAd (H:=G5) (a:=l6) (o:=.lst ([.int (aBn a)]++[.int 1]))
   generalize L2.upd G5 l6 (.lst ([.int (aBn a)]++[.int 1]))=G6 at s6 g6 ⊢
   replace g6:G6 l6=some (.lst [.int (aBn a),.int 1]):=g6
   walk_at "go"
   refine aBr fun p hp=>?_
   walk_at "go"
   have s36:=(((s2.trans s3).trans s4).trans s5).trans s6
   exact q1 _ _ _ (if_pos hwa) (s36.trans (aAm.new hp)) ⟨p,rfl,by rw [aAd]; rfl⟩
  obtain ⟨a,b,rfl⟩:∃ a b,ps=[a,b]:=by
   match ps,hne,h2,hd with
   | [],h,_,_=>exact absurd rfl h
   | [a],_,_,h=>exact absurd rfl h
   | [a,b],_,_,_=>exact ⟨a,b,rfl⟩
   | _::_::_::r,_,h,_=>exact absurd (show 2 < r.length+1+1+1 by omega) h
  have hwa:=hw a (by simp)
  have hwb:=hw b (by simp)
  obtain ⟨v1,v2,v3,v4⟩:=aEn hwa
  obtain ⟨u1,u2,u3,u4⟩:=aEn hwb
  have eol:List.map aQ7 (List.map aPr [a,b])=[.int (aBn a),.int (aBn b)]:=by
   show [aQ7 (aPr a),aQ7 (aPr b)]=_
   rw [aFs hwa,aFs hwb]
   rfl
  rw [eol] at hG hol ⊢
  have i0:atI [V.int (aBn a),.int (aBn b)] 0=some (.int (aBn a)):=rfl
  have i1:atI [V.int (aBn a),.int (aBn b)] 1=some (.int (aBn b)):=rfl
  have hl2':([V.int (aBn a),.int (aBn b)]:List V).length=2:=rfl
  walk_at "go"
  by_cases hb1:aBn b=1
  ·walk_at "go"
   exact q2 (if_neg fun z=>z.2.2.1 hb1) _ s2
  walk_at "go"
  refine ⟨aBn a,aBn b,rfl,by omega,(Sm.of (n:=64) (by omega) (by omega)).mono (by decide),(Sm.of (n:=64) (by omega) (by omega)).mono (by decide),fun p1 hp1=>?_⟩
  have t1:=aAm.new (o:=.tup [.int (aGk (aBn a) (aBn b)),.int (aF8 (aBn a) (aBn b))]) hp1
  have k1:=aAd (H:=G) (a:=p1) (o:=.tup [.int (aGk (aBn a) (aBn b)),.int (aF8 (aBn a) (aBn b))])
  generalize L2.upd G p1 (.tup [.int (aGk (aBn a) (aBn b)),.int (aF8 (aBn a) (aBn b))])=G1 at t1 k1 ⊢
  have hG1:=t1 _ _ hG
  walk_at "go"
  refine aBr fun p2 hp2=>?_
  have t2:=aAm.new (o:=.tup [.int (aBn a),.int (aBn b)]) hp2
  have k2:=aAd (H:=G1) (a:=p2) (o:=.tup [.int (aBn a),.int (aBn b)])
  generalize L2.upd G1 p2 (.tup [.int (aBn a),.int (aBn b)])=G2 at t2 k2 ⊢
  refine n_2 (t2 _ _ k1) k2 ?_
  rw [aW9 u2]
  replace hG:=t2 _ _ (t1 _ _ hG)
  replace s2:=(s2.trans t1).trans t2
  clear kp h0 sG t1 t2 k1 k2 hyl hp1 hp2 hG1
  generalize G2=G at hG s2 ⊢
  by_cases hg:Int.gcd (aBn a) (aBn b)=1
  rotate_left
  ·rw [decide_eq_false hg]
   walk_at "go"
   exact q2 (if_neg fun z=>hg z.2.2.2) _ s2
  rw [decide_eq_true hg]
  walk_at "go"
  refine aA2 fun l3 hl3=>?_
  have s3:=aAm.new (o:=.lst [.int 1]) hl3
  have g3:=aAd (H:=G) (a:=l3) (o:=.lst [.int 1])
  generalize L2.upd G l3 (.lst [.int 1])=G3 at s3 g3 ⊢
  refine aGm (s3 _ _ hG) g3 (by show 3<=1000000; decide) fun l4 hl4=>?_
  have s4:=aAm.new (o:=.lst ([.int (aBn a),.int (aBn b)]++[.int 1])) hl4
  have g4:=aAd (H:=G3) (a:=l4) (o:=.lst ([.int (aBn a),.int (aBn b)]++[.int 1]))
  generalize L2.upd G3 l4 (.lst ([.int (aBn a),.int (aBn b)]++[.int 1]))=G4 at s4 g4 ⊢
  replace g4:G4 l4=some (.lst [.int (aBn a),.int (aBn b),.int 1]):=g4
  walk_at "go"
  refine aA2 fun l5 hl5=>?_
  have s5:=aAm.new (o:=.lst [.int 1]) hl5
  have g5:=aAd (H:=G4) (a:=l5) (o:=.lst [.int 1])
  generalize L2.upd G4 l5 (.lst [.int 1])=G5 at s5 g5 ⊢
  refine aGm (s5 _ _ (s4 _ _ (s3 _ _ hG))) g5 (by show 3<=1000000; decide) fun l6 hl6=>?_
  have s6:=aAm.new (o:=.lst ([.int (aBn a),.int (aBn b)]++[.int 1])) hl6
  have g6:=aAd (H:=G5) (a:=l6) (o:=.lst ([.int (aBn a),.int (aBn b)]++[.int 1]))
  generalize L2.upd G5 l6 (.lst ([.int (aBn a),.int (aBn b)]++[.int 1]))=G6 at s6 g6 ⊢
  replace g6:G6 l6=some (.lst [.int (aBn a),.int (aBn b),.int 1]):=g6
  walk_at "go"
  refine aBr fun p hp=>?_
  walk_at "go"
  have s36:=(((s2.trans s3).trans s4).trans s5).trans s6
  obtain ⟨m1,m2⟩:=aVb u2 hg
  exact q1 _ _ _ (if_pos ⟨hwa,hwb,hb1,hg⟩) (s36.trans (aAm.new hp)) ⟨p,rfl,by rw [m1,m2]; exact aAd⟩
set_option maxHeartbeats 0 in
theorem aM3 (T:Bl mg) (d:Df K mg "_law_plain_of" aDo ["_law_words","_law_known"]  ) (W:XmS mg xt x0 x1 x4 x5 x10) (R_NoText:XrS K xt x0 x1 x4 x5 x10 x5 5) (o_is_name:Okf P w K mg base k "_law_is_name" ["_law_word_here"] aEq) (o_time_of:Okf P w K mg base k "_law_time_of" ["_law_word_here"] aIv) (o_l_is_post:Okf P w K mg base k "_law_is_post" ["_law_word_here"] aIx):Okf P w K mg base (k+1) "_law_plain_of" ["_law_words","_law_known"] (aHb K):=by
 refine Okf.of d aHj (fun vs H Q E h=>?_) (fun f cdv A outer s H vs Q E hr h=>?_)
 ·obtain ⟨l,d,f',n,ws,rfl,_⟩:=h
  rfl
 ·obtain ⟨l,d,f',n,ws,rfl,hne,hl,hw,hd,hok,q1,q2⟩:=h
  refine ⟨_,(@aAe _ _ _ _ _ (@aHt _ _ _ _ _ _ _ _ _ _ _ _ _ _ (i:=2) _ _ _ aHj.nd rfl (by first | exact Or.inl rfl | exact Or.inr rfl) (@aB7 _ _ (sc:=aAh aDo) (N:=["_law_words","_law_known","_law_some"]) (tn:=["_law_word_here"]) (names:=[]) (is:=[]) rfl rfl (by decide +kernel) (by decide +kernel) rfl (by decide +kernel) rfl (by decide +kernel) (by decide +kernel) (by decide +kernel)) rfl (@aCb _ _ _ _ (pv 0)) (fun _ _ _ _=>(@aAx _ _ (i:=0) _ (show (["_law_word_here"]:List Str).Nodup by decide +kernel) rfl (Or.inl rfl) (Or.inr rfl))) (fun _ _ _ _=>(pv 0)) (fun _ _ _ _=>(@aJ4 _ _ _ (@aCq _ _ _ (@aAn _ _ _ _ _ _ _ _ _ _ o_l_is_post hr rfl (@aAa _ _ _ _ _ (pv 0) (@aAc _) (by rfl)) (by decide) (by rfl) (by rfl)) (by intro _; rfl)))) (by intro _; rfl) (by rfl) (by first | exact .inl rfl | exact .inr rfl | assumption)) (@aAe _ _ _ _ _ (@aA6 _ _ _ _ _ _ _ _ (@PW.pt _ _ _ (@aCf _ _ _ _ _ _ _ (@aAl _ _ _ _ _ _ _ _ (aA0 hr.units) (@aAr _ _ _ _ _ _ _ aAt (pv 0) (@aAb _ _ _ _) (fun _ _=>rfl)) (@aAi _ _ _ _) (aAo _)) (@aCf _ _ _ _ _ _ _ (@aAl _ _ _ _ _ _ _ _ (aA0 hr.units) (@aAk _ _ _ _ _ _ _ _ _ aBo rfl T.z_len aAz (@aAa _ _ _ _ _ (pv 0) (@aAc _) (by rfl)) (by decide) (by decide) (by rfl) (by rfl)) (@aAb _ _ _ _) (aAo _)) (@aCl _ _ _ _ (@aAl _ _ _ _ _ _ _ _ (aA0 hr.units) (@aAy _ _ _ _ _ _ _ _ _ _ aBv (pv 2) (@aBi _) (@aBb _ _ _ (@aAb _ _ _ _))) (@aAy _ _ _ _ _ _ _ _ _ _ aBv (pv 0) (@aBi _) (@aBb _ _ _ (@aAb _ _ _ _))) (aAo _)))))) (@aAf _ _ _ (@aA6 _ _ _ _ _ _ _ _ (@aAl _ _ _ _ _ _ _ _ aCt (@aAn _ _ _ _ _ _ _ _ _ _ o_time_of hr rfl (@aAa _ _ _ _ _ (@aAr _ _ _ _ _ _ _ aAt (pv 0) (@aAb _ _ _ _) (fun _ _=>rfl)) (@aAc _) (by rfl)) (by decide) (by rfl) (by rfl)) (@aBj _ _ _) (aAo _)) (@aAf _ _ _ (@aAq _ _ _ _ (@aBy _ _ _ _ _ (@aAa _ _ _ _ _ (@aAi _ _ _ _) (@aAa _ _ _ _ _ (@aAr _ _ _ _ _ _ _ aAt (pv 0) (@aAb _ _ _ _) (fun _ _=>rfl)) (@aAa _ _ _ _ _ (@aAr _ _ _ _ _ _ _ aAt (pv 0) (@aAb _ _ _ _) (fun _ _=>rfl)) (@aAa _ _ _ _ _ (@aAn _ _ _ _ _ _ _ _ _ _ o_time_of hr rfl (@aAa _ _ _ _ _ (@aAr _ _ _ _ _ _ _ aAt (pv 0) (@aAb _ _ _ _) (fun _ _=>rfl)) (@aAc _) (by rfl)) (by decide) (by rfl) (by rfl)) (@aAc _) (by rfl)) (by rfl)) (by rfl)) (by rfl))))) (@aAu _))) (@aAu _)) (@aAe _ _ _ _ _ (@aA6 _ _ _ _ _ _ _ _ (@PW.pt _ _ _ (@aCf _ _ _ _ _ _ _ (@aAl _ _ _ _ _ _ _ _ aLk (@aAr _ _ _ _ _ _ _ aAt (pv 0) (@aAb _ _ _ _) (fun _ _=>rfl)) (@aA4 _ _ _ _ (@aAa _ _ _ _ _ (@aAi _ _ _ _) (@aAa _ _ _ _ _ (@aAi _ _ _ _) (@aAa _ _ _ _ _ (@aAi _ _ _ _) (@aAc _) (by rfl)) (by rfl)) (by rfl))) (by with_unfolding_all rfl)) (@aCl _ _ _ _ (@aAl _ _ _ _ _ _ _ _ aJ8 (@aAk _ _ _ _ _ _ _ _ _ aBo rfl T.z_len aAz (@aAa _ _ _ _ _ (pv 0) (@aAc _) (by rfl)) (by decide) (by decide) (by rfl) (by rfl)) (@aAj _ _ _ _ _ _ _ _ aAs (@aAb _ _ _ _) (@aA8 _ _ _ _ _ _ _ _ _ c_int rfl T.z_int aJf (@aAa _ _ _ _ _ (@aB3 _ _ _ _ _ _ _ _ (aA0 hr.units) (@aAr _ _ _ _ _ _ _ aAt (pv 0) (@aAb _ _ _ _) (fun _ _=>rfl)) (@aAi _ _ _ _) (aAo _)) (@aAc _) (by rfl)) (by decide) (by decide) (by rfl) (by rfl))) (aAo _))))) (@aAf _ _ _ (@aA6 _ _ _ _ _ _ _ _ (@PW.pt _ _ _ (@aCf _ _ _ _ _ _ _ (@aAl _ _ _ _ _ _ _ _ (aA0 hr.units) (@aAy _ _ _ _ _ _ _ _ _ _ aBv (pv 0) (@aBb _ _ _ (@aAb _ _ _ _)) (@aBi _)) (@aC8 _ _ _ _ _ _ _ _ _ _ _ _ _ _ (@aB7 _ _ (sc:=aAh aDo) (N:=["_law_words","_law_known","_law_some"]) (tn:=["_law_word_here"]) (names:=[]) (is:=[]) rfl rfl (by decide +kernel) (by decide +kernel) rfl (by decide +kernel) rfl (by decide +kernel) (by decide +kernel) (by decide +kernel)) rfl (@aCb _ _ _ _ (@aAy _ _ _ _ _ _ _ _ _ _ aBv (pv 0) (@aBb _ _ _ (@aAb _ _ _ _)) (@aBi _))) (fun _ _ _ _=>(@aAx _ _ (i:=0) _ (show (["_law_word_here"]:List Str).Nodup by decide +kernel) rfl (Or.inl rfl) (Or.inr rfl))) (fun _ _ _ _=>(pv 0)) (fun _ _ _ _=>(@aJ4 _ _ _ (@aCq _ _ _ (@aAn _ _ _ _ _ _ _ _ _ _ o_l_is_post hr rfl (@aAa _ _ _ _ _ (pv 0) (@aAc _) (by rfl)) (by decide) (by rfl) (by rfl)) (by intro _; rfl)))) (by intro _; rfl)) (aAo _)) (@aCl _ _ _ _ (@aAl _ _ _ _ _ _ _ _ aCt (@aAn _ _ _ _ _ _ _ _ _ _ o_time_of hr rfl (@aAa _ _ _ _ _ (@aAr _ _ _ _ _ _ _ aAt (pv 0) (@aAb _ _ _ _) (fun _ _=>rfl)) (@aAc _) (by rfl)) (by decide) (by rfl) (by rfl)) (@aBj _ _ _) (aAo _))))) (@aAf _ _ _ (@aAq _ _ _ _ (@aBy _ _ _ _ _ (@aAa _ _ _ _ _ (@aAr _ _ _ _ _ _ _ aAt (pv 0) (@aAb _ _ _ _) (fun _ _=>rfl)) (@aAa _ _ _ _ _ (@aAn _ _ _ _ _ _ _ _ _ _ o_time_of hr rfl (@aAa _ _ _ _ _ (@aAr _ _ _ _ _ _ _ aAt (pv 0) (@aAb _ _ _ _) (fun _ _=>rfl)) (@aAc _) (by rfl)) (by decide) (by rfl) (by rfl)) (@aAa _ _ _ _ _ (@aA8 _ _ _ _ _ _ _ _ _ aBe rfl T.z_tuple aCo (@aAa _ _ _ _ _ (@aAy _ _ _ _ _ _ _ _ _ _ aBv (pv 0) (@aBb _ _ _ (@aAb _ _ _ _)) (@aBi _)) (@aAc _) (by rfl)) (by decide) (by decide) (by rfl) (by rfl)) (@aAc _) (by rfl)) (by rfl)) (by rfl))))) (@aAu _))) (@aAu _)) (@aAe _ _ _ _ _ (@aA6 _ _ _ _ _ _ _ _ (@PW.pt _ _ _ (@aCf _ _ _ _ _ _ _ (@aAl _ _ _ _ _ _ _ _ (aA0 hr.units) (@aAr _ _ _ _ _ _ _ aAt (pv 0) (@aAb _ _ _ _) (fun _ _=>rfl)) (@aAi _ _ _ _) (aAo _)) (@aCf _ _ _ _ _ _ _ (@aAl _ _ _ _ _ _ _ _ aJ8 (@aAk _ _ _ _ _ _ _ _ _ aBo rfl T.z_len aAz (@aAa _ _ _ _ _ (pv 0) (@aAc _) (by rfl)) (by decide) (by decide) (by rfl) (by rfl)) (@aAb _ _ _ _) (aAo _)) (@aCf _ _ _ _ _ _ _ (@aAl _ _ _ _ _ _ _ _ (aA0 hr.units) (@aTo _ _ _ _ _ _ _ hr.u1 (pv 1) (@aAr _ _ _ _ _ _ _ aAt (pv 0) (@aAb _ _ _ _) (fun _ _=>rfl)) ⟨rfl,rfl,rfl,rfl⟩) (@aAj _ _ _ _ _ _ _ _ aI8 (@aAk _ _ _ _ _ _ _ _ _ aBo rfl T.z_len aAz (@aAa _ _ _ _ _ (pv 0) (@aAc _) (by rfl)) (by decide) (by decide) (by rfl) (by rfl)) (@aAb _ _ _ _)) (aAo _)) (@aCl _ _ _ _ (@aCq _ _ _ (@aAn _ _ _ _ _ _ _ _ _ _ o_is_name hr rfl (@aAa _ _ _ _ _ (@aAr _ _ _ _ _ _ _ aAt (pv 0) (@aAb _ _ _ _) (fun _ _=>rfl)) (@aAc _) (by rfl)) (by decide) (by rfl) (by rfl)) (by intro _; rfl))))))) (@aAf _ _ _ (@aA6 _ _ _ _ _ _ _ _ (@aAl _ _ _ _ _ _ _ _ (aA0 hr.units) (pv 2) (pv 0) (aAo _)) (@aAf _ _ _ (@aAq _ _ _ _ (@aBy _ _ _ _ _ (@aAa _ _ _ _ _ (@aAi _ _ _ _) (@aAa _ _ _ _ _ (@aAr _ _ _ _ _ _ _ aAt (pv 0) (@aAb _ _ _ _) (fun _ _=>rfl)) (@aAa _ _ _ _ _ (@aAr _ _ _ _ _ _ _ aAt (pv 0) (@aAb _ _ _ _) (fun _ _=>rfl)) (@aAa _ _ _ _ _ (@aA8 _ _ _ _ _ _ _ _ _ aBe rfl T.z_tuple aCo (@aAa _ _ _ _ _ (@aAy _ _ _ _ _ _ _ _ _ _ aBv (pv 0) (@aBb _ _ _ (@aAb _ _ _ _)) (@aBi _)) (@aAc _) (by rfl)) (by decide) (by decide) (by rfl) (by rfl)) (@aAc _) (by rfl)) (by rfl)) (by rfl)) (by rfl))))) (@aAu _))) (@aAu _)) (@aAf _ _ _ (@aAq _ _ _ _ (@aBj _ _ _))))))),?_⟩
  obtain ⟨k,r,rfl⟩:∃ k r,ws=k::r:=by
   cases ws with
   | nil=>exact absurd rfl hne
   | cons k r=>exact ⟨k,r,rfl⟩
  have a0:atI (List.map V.str (k::r)) 0=some (.str k):=show atI _ ((0:Nat):Int)=_ from aA7 rfl
  have hwl:=aG8 (k::r)
  have hml:(List.map V.str (k::r)).length=r.length+1:=by rw [List.length_map,List.length_cons]
  walk_at "go"
  refine aCa (SqL.of hl) ?_
  refine aOg (p:=aBx) hl (by omega) ?_ ?_ ?_
  ·intro w hw G R kk
   walk_at "go"
   refine ⟨w,rfl,by have:=aIs hw; omega,fun G1 t1=>?_⟩
   walk_at "go"
   exact kk _ t1
  ·intro w G R kk
   walk_at "go"
   exact kk
  intro ls G hls sG gS
  have hlG:=sG _ _ hl
  have hdG:=hd.sm sG
  walk_at "gos"
  refine aUy ?_
  refine aMt ?_
  refine aQz (fun σ G'=>σ=[some (.ref l),some (.ref d),some (.ref ls)]/\aAm G G'/\(k="run"->aBk f' (k::r)=none)) ?_ ?_
  rotate_left
  ·intro NX hNX
   walk_at "go"
   refine aBa hlG a0 ?_
   walk_at "go"
   by_cases e1:k="run"
   rotate_left
   ·rw [if_neg (show ¬ (k==Str.ofString "run")=true by simpa using e1)]
    walk_at "go"
    exact hNX _ _ ⟨rfl,aAm.refl _,fun e=>absurd e e1⟩
   subst e1
   have epl:aBk f' ("run"::r)=aTb r:=by rw [aCg,if_pos rfl]
   rw [epl] at q2 hNX
   replace q1:∀ t v H',aTb r=some t->aAm H H'->aBp H' v t->Q v H':=fun t v H' e=>q1 t v H' (epl.trans e)
   walk_at "go"
   by_cases h3:r.length=3
   rotate_left
   ·have en:aTb r=none:=by
     match r,h3 with
     | [],_=>rfl
     | [_],_=>rfl
     | [_,_],_=>rfl
     | [_,_,_],h=>exact absurd rfl h
     | _::_::_::_::_,_=>rfl
    walk_at "go"
    exact hNX _ _ ⟨rfl,aAm.refl _,fun _=>en⟩
   obtain ⟨a,b,c,rfl⟩:∃ a b c,r=[a,b,c]:=by
    match r,h3 with
    | [a,b,c],_=>exact ⟨a,b,c,rfl⟩
   have hwt:=hw
   rw [aBd,aBd,aBd,aBd,aIr] at hwt
   have a1:atI (List.map V.str [("run":Str),a,b,c]) 1=some (.str a):=show atI _ ((1:Nat):Int)=_ from aA7 rfl
   have a2:atI (List.map V.str [("run":Str),a,b,c]) 2=some (.str b):=show atI _ ((2:Nat):Int)=_ from aA7 rfl
   have a3:atI (List.map V.str [("run":Str),a,b,c]) 3=some (.str c):=show atI _ ((3:Nat):Int)=_ from aA7 rfl
   walk_at "go"
   refine aEb gS fun l1 hl1=>?_
   rw [show aDs (List.map V.str (List.filter aBx [("run":Str),a,b,c])) none (some 3)=((List.filter aBx [("run":Str),a,b,c]).take 3).map V.str by rw [show (3:Int)=((3:Nat):Int) from rfl,aSi,List.map_take]]
   generalize hX:(List.filter aBx [("run":Str),a,b,c]).take 3=X at hl1 ⊢
   have s1:=aAm.new (o:=.lst (X.map V.str)) hl1
   have g1:=aAd (H:=G) (a:=l1) (o:=.lst (X.map V.str))
   generalize L2.upd G l1 (.lst (X.map V.str))=G1 at s1 g1 ⊢
   walk_at "go"
   refine aEb (s1 _ _ hlG) fun l2 hl2=>?_
   rw [show aDs (List.map V.str [("run":Str),a,b,c]) none (some 3)=[("run":Str),a,b].map V.str by rw [show (3:Int)=((3:Nat):Int) from rfl,aSi]; rfl]
   have s2:=aAm.new (o:=.lst ([("run":Str),a,b].map V.str)) hl2
   have g2:=aAd (H:=G1) (a:=l2) (o:=.lst ([("run":Str),a,b].map V.str))
   generalize L2.upd G1 l2 (.lst ([("run":Str),a,b].map V.str))=G2 at s2 g2 ⊢
   have s12:=s1.trans s2
   refine aGl (s2 _ _ g1) g2 ?_
   have eX:decide (X=[("run":Str),a,b])=(aBx a&&aBx b):=by
    have h:=@aR9 Str aBx [("run":Str),a,b,c] 3
    rw [hX] at h
    rw [Bool.eq_iff_iff,decide_eq_true_iff,show X=[("run":Str),a,b] ↔ _ from h,Bool.and_eq_true]
    show (∀ x∈[("run":Str),a,b],aBx x=true) ↔ _
    have hr:aBx "run"=true:=by decide +kernel
    simp [hr]
   rw [eX]
   cases hab:aBx a&&aBx b with
   | false =>
    walk_at "go"
    refine hNX _ _ ⟨rfl,s12,fun _=>if_neg fun z=>?_⟩
    rw [z.1,z.2] at hab
    cases hab
   | true =>
   rw [Bool.and_eq_true] at hab
   walk_at "go"
   refine aBa (s12 _ _ hlG) a3 ?_
   walk_at "go"
   refine ⟨c,rfl,by omega,fun t v G3 et s3 fv=>?_,fun en G3 s3=>?_⟩
   rotate_left
   ·walk_at "go"
    refine hNX _ _ ⟨rfl,s12.trans s3,fun _=>?_⟩
    show (if _ then _ else _)=_
    rw [if_pos hab,en]
    rfl
   have s13:=s12.trans s3
   obtain ⟨pv,rfl,hpv⟩:=id fv
   walk_at "go"
   refine aBa (s13 _ _ hlG) a1 ?_
   walk_at "go"
   refine aBa (s13 _ _ hlG) a2 ?_
   walk_at "go"
   refine aBa (s13 _ _ hlG) a3 ?_
   walk_at "go"
   refine ⟨c,rfl,by omega,fun t' v' G4 et' s4 fv'=>?_,fun en G4 s4=>by rw [et] at en; cases en⟩
   rw [et] at et'
   cases et'
   walk_at "go"
   refine aBr fun p9 hp9=>?_
   walk_at "go"
   exact q1 (.plain (.run a b t)) _ _ (by show (if _ then _ else _)=_; rw [if_pos hab,et]; rfl) (((sG.trans s13).trans s4).trans (aAm.new hp9)) ⟨p9,v',rfl,aAd,fv'.tk (TK.new hp9)⟩
  rintro _ G' ⟨rfl,sG',hrun⟩
  replace hlG:=sG' _ _ hlG
  replace hdG:=hdG.sm sG'
  replace gS:=sG' _ _ gS
  replace sG:=sG.trans sG'
  clear sG' hls
  generalize G'=G at hlG hdG gS sG ⊢
  walk_at "gos"
  refine aUy ?_
  refine aMt ?_
  refine aQz (fun σ G'=>σ=[some (.ref l),some (.ref d),some (.ref ls)]/\aAm G G'/\(k≠"put"->aBk f' (k::r)=none)) ?_ ?_
  rotate_left
  ·intro NX hNX
   walk_at "go"
   refine aBa hlG a0 ?_
   walk_at "go"
   refine aA2 fun l3 hl3=>?_
   have s3:=aAm.new (o:=.lst [.str "row",.str "star",.str "ring"]) hl3
   have g3:=aAd (H:=G) (a:=l3) (o:=.lst [.str "row",.str "star",.str "ring"])
   generalize L2.upd G l3 (.lst [.str "row",.str "star",.str "ring"])=G3 at s3 g3 ⊢
   refine r_inS (ys:=["row","star","ring"]) g3 ?_
   have eki:decide (k∈([("row":Str),"star","ring"]:List Str))=(aFr k).isSome:=by
    unfold aFr
    by_cases h1:k="row"
    ·subst h1; decide +kernel
    by_cases h2:k="star"
    ·subst h2; decide +kernel
    by_cases h3:k="ring"
    ·subst h3; decide +kernel
    rw [if_neg h1,if_neg h2,if_neg h3]
    exact decide_eq_false fun m=>by
     rcases List.mem_cons.mp m with e | m
     ·exact h1 e
     rcases List.mem_cons.mp m with e | m
     ·exact h2 e
     exact h3 (List.mem_singleton.mp m)
   rw [eki]
   cases hk:aFr k with
   | none =>
    walk_at "go"
    refine hNX _ _ ⟨rfl,s3,fun hp=>?_⟩
    by_cases e1:k="run"
    ·exact hrun e1
    ·rw [aCg,if_neg e1,hk]
     exact if_neg hp
   | some kd =>
   have ek:=aRt hk
   subst ek
   have epl:aBk f' (kd.nm::r)=aM1 kd r:=by
    rw [aCg,if_neg (by cases kd <;> decide +kernel),hk]
   rw [epl] at q2 hNX
   replace q1:∀ t v H',aM1 kd r=some t->aAm H H'->aBp H' v t->Q v H':=fun t v H' e=>q1 t v H' (epl.trans e)
   have hlG3:=s3 _ _ hlG
   walk_at "go"
   refine aBa hlG3 a0 ?_
   walk_at "go"
   rw [show (if (kd.nm==Str.ofString "ring")=true then (1:Int) else 0)=fpN kd - 2 by cases kd <;> decide +kernel]
   have hk2:2<=fpN kd:=by cases kd <;> decide
   refine i_d (fun c1=>?_) (fun c1=>?_)
   rotate_left
   ·walk_at "go"
    refine hNX _ _ ⟨rfl,s3,fun _=>?_⟩
    cases r with
    | nil=>rfl
    | cons z ps =>
     refine if_neg fun c=>c1 ?_
     have:=c.1
     rw [List.length_cons] at hml
     omega
   obtain ⟨z,ps,rfl⟩:∃ z ps,r=z::ps:=by
    cases r with
    | nil=>rw [hml] at c1; simp at c1; omega
    | cons z ps=>exact ⟨z,ps,rfl⟩
   have hwt:=hw
   rw [aBd,aBd] at hwt
   have hwl:=aG8 ps
   have hm2:(List.map V.str (kd.nm::z::ps)).length=ps.length+2:=by rw [List.length_map,List.length_cons,List.length_cons]
   have hfe:fpN kd<=(ps.length:Int):=by omega
   have a1:atI (List.map V.str (kd.nm::z::ps)) 1=some (.str z):=show atI _ ((1:Nat):Int)=_ from aA7 rfl
   have ec:aDs (List.map V.str (kd.nm::z::ps)) (some 2) none=ps.map V.str:=aCw (xs:=List.map V.str (kd.nm::z::ps)) 2 (by omega)
   walk_at "go"
   refine aEb hlG3 fun l4 hl4=>?_
   rw [ec]
   have s4:=aAm.new (o:=.lst (ps.map V.str)) hl4
   have g4:=aAd (H:=G3) (a:=l4) (o:=.lst (ps.map V.str))
   generalize L2.upd G3 l4 (.lst (ps.map V.str))=G4 at s4 g4 ⊢
   have hlG4:=s4 _ _ hlG3
   walk_at "go"
   refine aEb hlG4 fun l5 hl5=>?_
   rw [ec]
   have s5:=aAm.new (o:=.lst (ps.map V.str)) hl5
   have g5:=aAd (H:=G4) (a:=l5) (o:=.lst (ps.map V.str))
   generalize L2.upd G4 l5 (.lst (ps.map V.str))=G5 at s5 g5 ⊢
   refine aCa (SqL.of g5) ?_
   refine aOg (p:=aBx) g5 (by omega) ?_ ?_ ?_
   ·intro w hw G R kk
    walk_at "go"
    refine ⟨w,rfl,by have:=aIs hw; omega,fun G1 t1=>?_⟩
    walk_at "go"
    exact kk _ t1
   ·intro w G R kk
    walk_at "go"
    exact kk
   intro l6 G6 hl6 s6 g6
   have s36:=((s3.trans s4).trans s5).trans s6
   walk_at "go"
   refine aGl (s6 _ _ (s5 _ _ g4)) g6 ?_
   have eX:decide (ps=ps.filter aBx)=ps.all aBx:=by
    rw [Bool.eq_iff_iff,decide_eq_true_iff,List.all_eq_true,eq_comm]
    exact List.filter_eq_self
   rw [eX]
   cases hab:ps.all aBx with
   | false =>
    walk_at "go"
    refine hNX _ _ ⟨rfl,s36,fun _=>if_neg fun z=>?_⟩
    rw [z.2] at hab
    cases hab
   | true =>
   have hlG6:=s36 _ _ hlG
   walk_at "go"
   refine aBa hlG6 a1 ?_
   walk_at "go"
   refine ⟨z,rfl,by omega,fun t v G7 et s7 fv=>?_,fun en G7 s7=>?_⟩
   rotate_left
   ·walk_at "go"
    refine hNX _ _ ⟨rfl,s36.trans s7,fun _=>?_⟩
    show (if _ then _ else _)=_
    rw [if_pos ⟨hfe,hab⟩,en]
    rfl
   have s37:=s36.trans s7
   obtain ⟨pv,rfl,hpv⟩:=id fv
   have hlG7:=s37 _ _ hlG
   walk_at "go"
   refine aBa hlG7 a0 ?_
   walk_at "go"
   refine aBa hlG7 a1 ?_
   walk_at "go"
   refine ⟨z,rfl,by omega,fun t' v' G8 et' s8 fv'=>?_,fun en G8 s8=>by rw [et] at en; cases en⟩
   rw [et] at et'
   cases et'
   have hlG8:=s8 _ _ hlG7
   walk_at "go"
   refine aEb hlG8 fun l9 hl9=>?_
   rw [ec]
   have s9:=aAm.new (o:=.lst (ps.map V.str)) hl9
   have g9:=aAd (H:=G8) (a:=l9) (o:=.lst (ps.map V.str))
   generalize L2.upd G8 l9 (.lst (ps.map V.str))=G9 at s9 g9 ⊢
   walk_at "go"
   refine ⟨l9,_,rfl,.inl ⟨SqL.of g9,fun pa hpa=>?_⟩⟩
   have s10:=aAm.new (o:=.tup (ps.map V.str)) hpa
   have g10:=aAd (H:=G9) (a:=pa) (o:=.tup (ps.map V.str))
   generalize L2.upd G9 pa (.tup (ps.map V.str))=G10 at s10 g10 ⊢
   walk_at "go"
   refine aBr fun p9 hp9=>?_
   walk_at "go"
   have s11:=aAm.new (o:=.tup [.str kd.nm,v',.ref pa]) hp9
   exact q1 (.plain (.path kd t ps)) _ _ (by show (if _ then _ else _)=_; rw [if_pos ⟨hfe,hab⟩,et]; rfl) (((((sG.trans s37).trans s8).trans s9).trans s10).trans s11) ⟨p9,v',pa,rfl,aAd,((fv'.tk s9.tk).tk s10.tk).tk s11.tk,s11 _ _ g10⟩
  rintro _ G' ⟨rfl,sG',hput⟩
  replace hlG:=sG' _ _ hlG
  replace hdG:=hdG.sm sG'
  replace gS:=sG' _ _ gS
  replace sG:=sG.trans sG'
  clear sG' hrun
  generalize G'=G at hlG hdG gS sG ⊢
  walk_at "gos"
  refine aUy ?_
  refine aMt ?_
  refine aQz (fun σ G'=>aAm H G'/\aBk f' (k::r)=none) ?_ ?_
  ·rintro σ G' ⟨sG',en⟩
   walk_at "go"
   exact q2 en _ sG'
  intro NX hNX
  walk_at "go"
  refine aBa hlG a0 ?_
  walk_at "go"
  by_cases e1:k="put"
  rotate_left
  ·rw [if_neg (show ¬ (k==Str.ofString "put")=true by simpa using e1)]
   walk_at "go"
   exact hNX _ _ ⟨sG,hput e1⟩
  subst e1
  have epl:aBk f' ("put"::r)=aU3 f' r:=by
   rw [aCg,if_neg (by decide +kernel),aT5]
   exact if_pos rfl
  rw [epl] at q2 hNX
  replace q1:∀ t v H',aU3 f' r=some t->aAm H H'->aBp H' v t->Q v H':=fun t v H' e=>q1 t v H' (epl.trans e)
  walk_at "go"
  by_cases h3:3<=r.length
  rotate_left
  ·walk_at "go"
   refine hNX _ _ ⟨sG,?_⟩
   match r,h3 with
   | [],_=>rfl
   | [_],_=>rfl
   | [nm,cl],_ =>
    refine if_neg fun z=>?_
    have:=(hok _ _ z.1).2
    exact absurd this (by decide)
   | _::_::_::r,h=>exact absurd (show 3<=r.length+1+1+1 by omega) h
  obtain ⟨nm,cl,as,rfl⟩:∃ nm cl as,r=nm::cl::as:=by
   match r,h3 with
   | nm::cl::as,_=>exact ⟨nm,cl,as,rfl⟩
  have hwt:=hw
  rw [aBd,aBd,aBd] at hwt
  have hm2:(List.map V.str (("put":Str)::nm::cl::as)).length=as.length+3:=by rw [List.length_map,List.length_cons,List.length_cons,List.length_cons]
  have a1:atI (List.map V.str (("put":Str)::nm::cl::as)) 1=some (.str nm):=show atI _ ((1:Nat):Int)=_ from aA7 rfl
  have a2:atI (List.map V.str (("put":Str)::nm::cl::as)) 2=some (.str cl):=show atI _ ((2:Nat):Int)=_ from aA7 rfl
  obtain ⟨kn,hk,_,hv⟩:=id hdG
  walk_at "go"
  refine ⟨d,rfl,IsD.k (.inl hk),?_⟩
  walk_at "go"
  refine aBa hlG a1 ?_
  refine ⟨_,.inl ⟨kn,Sum.inr nm,.inl hk,rfl,rfl⟩,?_⟩
  rw [hv nm]
  cases hf:f' nm with
  | none =>
   show tOp _ _ _ _ _ _
   walk_at "go"
   refine bB5 ?_
   walk_at "go"
   exact hNX _ _ ⟨sG,if_neg fun z=>by rw [hf] at z; cases z.1⟩
  | some c =>
   dsimp only [Option.map_some,Option.getD_some]
   walk_at "go"
   by_cases ec:c=as.length
   rotate_left
   ·walk_at "go"
    refine hNX _ _ ⟨sG,if_neg fun z=>?_⟩
    rw [hf] at z
    exact ec (Option.some.inj z.1)
   subst ec
   walk_at "go"
   refine aBa hlG a2 ?_
   walk_at "go"
   refine ⟨cl,rfl,by omega,fun G1 s1=>?_⟩
   have hl1:=s1 _ _ hlG
   cases hcl:aA3 cl with
   | false =>
    walk_at "go"
    exact hNX _ _ ⟨sG.trans s1,if_neg fun z=>by rw [hcl] at z; cases z.2.1⟩
   | true =>
   walk_at "go"
   refine aGl (s1 _ _ gS) hl1 ?_
   have eX:decide (List.filter aBx (("put":Str)::nm::cl::as)=("put":Str)::nm::cl::as)=as.all aBx:=by
    rw [Bool.eq_iff_iff,decide_eq_true_iff,List.filter_eq_self,List.all_eq_true]
    have h1:aBx "put"=true:=by decide +kernel
    have h2:=aLh (hok _ _ hf).1
    have h3:=aLh hcl
    simp [h1,h2,h3]
   rw [eX]
   cases hab:as.all aBx with
   | false =>
    walk_at "go"
    exact hNX _ _ ⟨sG.trans s1,if_neg fun z=>by rw [hab] at z; cases z.2.2⟩
   | true =>
   walk_at "go"
   refine aBa hl1 a1 ?_
   walk_at "go"
   refine aBa hl1 a2 ?_
   walk_at "go"
   refine aEb hl1 fun l2 hl2=>?_
   rw [show aDs (List.map V.str (("put":Str)::nm::cl::as)) (some 3) none=as.map V.str from aCw (xs:=List.map V.str (("put":Str)::nm::cl::as)) 3 (by omega)]
   have s2:=aAm.new (o:=.lst (as.map V.str)) hl2
   have g2:=aAd (H:=G1) (a:=l2) (o:=.lst (as.map V.str))
   generalize L2.upd G1 l2 (.lst (as.map V.str))=G2 at s2 g2 ⊢
   walk_at "go"
   refine ⟨l2,_,rfl,.inl ⟨SqL.of g2,fun pa hpa=>?_⟩⟩
   have s3:=aAm.new (o:=.tup (as.map V.str)) hpa
   have g3:=aAd (H:=G2) (a:=pa) (o:=.tup (as.map V.str))
   generalize L2.upd G2 pa (.tup (as.map V.str))=G3 at s3 g3 ⊢
   walk_at "go"
   refine aBr fun p9 hp9=>?_
   walk_at "go"
   have s9:=aAm.new (o:=.tup [.str "put",.str nm,.str cl,.ref pa]) hp9
   exact q1 (.put nm cl as) _ _ (if_pos ⟨hf,hcl,hab⟩) ((((sG.trans s1).trans s2).trans s3).trans s9) ⟨p9,pa,rfl,aAd,s9 _ _ g3⟩
set_option maxHeartbeats 0 in
theorem aTy (T:Bl mg) (d:Df K mg "_law_begun" aJ0 ["_law_words","_law_known"]  ) (W:XmS mg xt x0 x1 x4 x5 x10) (R_NoText:XrS K xt x0 x1 x4 x5 x10 x5 5) (o_is_name:Okf P w K mg base k "_law_is_name" ["_law_word_here"] aEq):Okf P w K mg base (k+1) "_law_begun" ["_law_words","_law_known"] (aK8 K):=by
 refine Okf.of d aN9 (fun vs H Q E h=>?_) (fun f cdv A outer s H vs Q E hr h=>?_)
 ·obtain ⟨l,d,f',n,ws,rfl,_⟩:=h
  rfl
 ·obtain ⟨l,d,f',n,ws,rfl,hne,hl,hw,hd,q1,q2⟩:=h
  refine ⟨_,(@aAe _ _ _ _ _ (@aHt _ _ _ _ _ _ _ _ _ _ _ _ _ _ (i:=2) _ _ _ aN9.nd rfl (by first | exact Or.inl rfl | exact Or.inr rfl) (@aB7 _ _ (sc:=aAh aJ0) (N:=["_law_words","_law_known","_law_names_here"]) (tn:=["_law_word_here"]) (names:=[]) (is:=[]) rfl rfl (by decide +kernel) (by decide +kernel) rfl (by decide +kernel) rfl (by decide +kernel) (by decide +kernel) (by decide +kernel)) rfl (@aCb _ _ _ _ (@aAy _ _ _ _ _ _ _ _ _ _ aBv (pv 0) (@aBb _ _ _ (@aAb _ _ _ _)) (@aBi _))) (fun _ _ _ _=>(@aAx _ _ (i:=0) _ (show (["_law_word_here"]:List Str).Nodup by decide +kernel) rfl (Or.inl rfl) (Or.inr rfl))) (fun _ _ _ _=>(pv 0)) (fun _ _ _ _=>(@aJ4 _ _ _ (@aCq _ _ _ (@aAn _ _ _ _ _ _ _ _ _ _ o_is_name hr rfl (@aAa _ _ _ _ _ (pv 0) (@aAc _) (by rfl)) (by decide) (by rfl) (by rfl)) (by intro _; rfl)))) (by intro _; rfl) (by rfl) (by first | exact .inl rfl | exact .inr rfl | assumption)) (@aAe _ _ _ _ _ (@aA6 _ _ _ _ _ _ _ _ (@PW.pt _ _ _ (@aHs _ _ _ _ _ _ _ (@aAl _ _ _ _ _ _ _ _ (aD5 hr.units) (@aAr _ _ _ _ _ _ _ aAt (pv 0) (@aAb _ _ _ _) (fun _ _=>rfl)) (@aAi _ _ _ _) (aAo _)) (@aHs _ _ _ _ _ _ _ (@aAl _ _ _ _ _ _ _ _ (aD5 hr.units) (@aAk _ _ _ _ _ _ _ _ _ aBo rfl T.z_len aAz (@aAa _ _ _ _ _ (pv 2) (@aAc _) (by rfl)) (by decide) (by decide) (by rfl) (by rfl)) (@aAj _ _ _ _ _ _ _ _ aI8 (@aAk _ _ _ _ _ _ _ _ _ aBo rfl T.z_len aAz (@aAa _ _ _ _ _ (pv 0) (@aAc _) (by rfl)) (by decide) (by decide) (by rfl) (by rfl)) (@aAb _ _ _ _)) (aAo _)) (@aHs _ _ _ _ _ _ _ (@aC7 _ _ _ _ (@aOi _ _ _ _ _ _ _ _ _ _ _ _ aF6 aF6 (@aAb _ _ _ _) (@aAk _ _ _ _ _ _ _ _ _ aBo rfl T.z_len aAz (@aAa _ _ _ _ _ (pv 0) (@aAc _) (by rfl)) (by decide) (by decide) (by rfl) (by rfl)) (@aAb _ _ _ _) (by with_unfolding_all rfl))) (@aGj _ _ _ _ (@aU4 _ _ _ _ _ _ (@aVa _ _ _ _ _ hr.u1 (@aAr _ _ _ _ _ _ _ aAt (pv 0) (@aAb _ _ _ _) (fun _ _=>rfl)) (pv 1)) (by first | exact nobehind _ (by decide) (by decide) | rfl))))))) (@aAf _ _ _ (@aAq _ _ _ _ (@aBj _ _ _))) (@aAu _)) (@aAe _ _ _ _ _ (@aA6 _ _ _ _ _ _ _ _ (@aAl _ _ _ _ _ _ _ _ (aD5 hr.units) (@aAk _ _ _ _ _ _ _ _ _ aVi rfl T.z_len aAz (@aAa _ _ _ _ _ (@aA8 _ _ _ _ _ _ _ _ _ (aMa rfl) rfl T.z_set aVj (@aAa _ _ _ _ _ (@aAy _ _ _ _ _ _ _ _ _ _ aBv (pv 0) (@aBb _ _ _ (@aAb _ _ _ _)) (@aBi _)) (@aAc _) (by rfl)) (by decide) (by decide) (by rfl) (by rfl)) (@aAc _) (by rfl)) (by decide) (by decide) (by rfl) (by rfl)) (@aAj _ _ _ _ _ _ _ _ aI8 (@aAk _ _ _ _ _ _ _ _ _ aBo rfl T.z_len aAz (@aAa _ _ _ _ _ (pv 0) (@aAc _) (by rfl)) (by decide) (by decide) (by rfl) (by rfl)) (@aAb _ _ _ _)) (aAo _)) (@aAf _ _ _ (@aAq _ _ _ _ (@aBj _ _ _))) (@aAu _)) (@aAf _ _ _ (@aAq _ _ _ _ (@aA4 _ _ _ _ (@aAa _ _ _ _ _ (@aAr _ _ _ _ _ _ _ aAt (pv 0) (@aAb _ _ _ _) (fun _ _=>rfl)) (@aAa _ _ _ _ _ (@aA8 _ _ _ _ _ _ _ _ _ aBe rfl T.z_tuple aCo (@aAa _ _ _ _ _ (@aAy _ _ _ _ _ _ _ _ _ _ aBv (pv 0) (@aBb _ _ _ (@aAb _ _ _ _)) (@aBi _)) (@aAc _) (by rfl)) (by decide) (by decide) (by rfl) (by rfl)) (@aAa _ _ _ _ _ (@aA4 _ _ _ _ (@aAc _)) (@aAc _) (by rfl)) (by rfl)) (by rfl)))))))),?_⟩
  obtain ⟨k,r,rfl⟩:∃ k r,ws=k::r:=by
   cases ws with
   | nil=>exact absurd rfl hne
   | cons k r=>exact ⟨k,r,rfl⟩
  have a0:atI (List.map V.str (k::r)) 0=some (.str k):=show atI _ ((0:Nat):Int)=_ from aA7 rfl
  have hwr:=hw
  rw [aBd] at hwr
  have hwl:=aG8 r
  have hml:(List.map V.str (k::r)).length=r.length+1:=by rw [List.length_map,List.length_cons]
  have ec1:aDs (List.map V.str (k::r)) (some 1) none=r.map V.str:=aCw (xs:=List.map V.str (k::r)) 1 (by omega)
  obtain ⟨kn,hk,_,hv⟩:=id hd
  walk_at "go"
  refine aEb hl fun l1 hl1=>?_
  rw [ec1]
  have s1:=aAm.new (o:=.lst (r.map V.str)) hl1
  have g1:=aAd (H:=H) (a:=l1) (o:=.lst (r.map V.str))
  generalize L2.upd H l1 (.lst (r.map V.str))=H1 at s1 g1 ⊢
  refine aCa (SqL.of g1) ?_
  refine aOg (p:=aA3) g1 (by omega) ?_ ?_ ?_
  ·intro w hw G R kk
   walk_at "go"
   refine ⟨w,rfl,by have:=aIs hw; omega,fun G1 t1=>?_⟩
   walk_at "go"
   exact kk _ t1
  ·intro w G R kk
   walk_at "go"
   exact kk
  intro ls G hls sG gS
  replace sG:=s1.trans sG
  have hlG:=sG _ _ hl
  have hkG:=sG _ _ hk
  have hfl:=List.length_filter_le aA3 r
  have hsl:((r.filter aA3).map V.str).length=(r.filter aA3).length:=List.length_map _
  walk_at "gos"
  refine aUy ?_
  refine aMt ?_
  refine aQz (fun σ G'=>σ=[some (.ref l),some (.ref d),some (.ref ls)]/\aAm G G'/\∃ nm ps,k="piece"/\r=nm::ps/\(1<=ps.length/\ps.length<=8)/\(nm::ps).all aA3=true/\f' nm=none) ?_ ?_
  rotate_left
  ·intro NX hNX
   walk_at "go"
   refine aBa hlG a0 ?_
   walk_at "go"
   by_cases e1:k="piece"
   rotate_left
   ·rw [if_neg (show ¬ (k==Str.ofString "piece")=true by simpa using e1)]
    walk_at "go"
    exact q2 (aO1 e1) _ sG
   subst e1
   walk_at "go"
   by_cases e2:(r.filter aA3).length=r.length
   rotate_left
   ·walk_at "go"
    refine q2 ?_ _ sG
    cases r with
    | nil=>rfl
    | cons nm ps =>
     refine if_neg fun z=>e2 ?_
     rw [List.filter_eq_self.mpr (List.all_eq_true.mp z.2.2.1)]
   have e2':r.all aA3=true:=List.all_eq_true.mpr (List.length_filter_eq_length_iff.mp e2)
   walk_at "go"
   by_cases h2:2<=r.length
   rotate_left
   ·walk_at "go"
    refine q2 ?_ _ sG
    match r,h2 with
    | [],_=>rfl
    | [nm],_ =>
     simp [aCh]
    | _::_::r,h=>exact absurd (show 2<=r.length+1+1 by omega) h
   walk_at "go"
   obtain ⟨nm,ps,rfl⟩:∃ nm ps,r=nm::ps:=by
    cases r with
    | nil=>exact absurd h2 (by decide)
    | cons nm ps=>exact ⟨nm,ps,rfl⟩
   rw [List.length_cons] at h2 hml
   have i1:atI (List.map V.str (("piece":Str)::nm::ps)) 1=some (.str nm):=show atI _ ((1:Nat):Int)=_ from aA7 rfl
   by_cases h9:ps.length<=8
   rotate_left
   ·walk_at "go"
    exact q2 (if_neg fun z=>h9 z.2.1.2) _ sG
   walk_at "go"
   refine aBa hlG i1 ?_
   walk_at "go"
   refine aZ6 (.inl hkG) ?_
   cases c5:f' nm with
   | some c =>
    have hvc:aDc kn (Sum.inr nm)=some (.int (c:Int)):=by rw [hv nm,c5]; rfl
    rw [hvc]
    walk_at "go"
    exact q2 (if_neg fun z=>by rw [c5] at z; cases z.2.2.2.2) _ sG
   | none =>
    have hvc:aDc kn (Sum.inr nm)=none:=by rw [hv nm,c5]; rfl
    rw [hvc]
    walk_at "go"
    exact hNX _ _ ⟨rfl,aAm.refl _,nm,ps,rfl,rfl,⟨by omega,h9⟩,e2',c5⟩
  rintro _ G' ⟨rfl,sG',nm,ps,rfl,rfl,h18,hall,c5⟩
  have s2:=sG.trans sG'
  have hl2:=s2 _ _ hl
  rw [List.length_cons] at hml
  have eb:aCh f' ("piece"::nm::ps)=if ps.Nodup then some (nm,ps) else none:=by
   show (if _ then _ else _)=_
   by_cases h:ps.Nodup
   ·rw [if_pos ⟨rfl,h18,hall,h,c5⟩,if_pos h]
   ·rw [if_neg fun z=>h z.2.2.2.1,if_neg h]
  rw [eb] at q2
  replace q1:ps.Nodup->∀ li lq lp H',aAm H H'->H li=none->H lp=none->li≠lp->H' li=some (.lst [.str nm,.ref lq,.ref lp])->H' lq=some (.tup (ps.map V.str))->H' lp=some (.lst [])->Q (.ref li) H':=fun h li lq lp H'=>q1 (nm,ps) li lq lp H' (by rw [eb,if_pos h])
  have i1:atI (List.map V.str (("piece":Str)::nm::ps)) 1=some (.str nm):=show atI _ ((1:Nat):Int)=_ from aA7 rfl
  have ec2:aDs (List.map V.str (("piece":Str)::nm::ps)) (some 2) none=ps.map V.str:=aCw (xs:=List.map V.str (("piece":Str)::nm::ps)) 2 (by omega)
  have hpl:(ps.map V.str).length=ps.length:=List.length_map _
  walk_at "go"
  refine aEb hl2 fun l3 hl3=>?_
  rw [ec2]
  have s3:=aAm.new (o:=.lst (ps.map V.str)) hl3
  have g3:=aAd (H:=G') (a:=l3) (o:=.lst (ps.map V.str))
  generalize L2.upd G' l3 (.lst (ps.map V.str))=G3 at s3 g3 ⊢
  walk_at "go"
  refine aUw g3 (by omega) fun l5 ys5 G5 hl5 s5 g5 nd5 mem5=>?_
  walk_at "go"
  refine ⟨l5,ys5,rfl,g5,?_⟩
  have s35:=(s2.trans s3).trans s5
  have hl5:=s35 _ _ hl
  by_cases c4:ps.Nodup
  rotate_left
  ·have ne5:¬ ys5.length=ps.length:=fun e=>c4 (aH0 nd5 (fun z hz=>(mem5 z).mp hz) (by omega))
   walk_at "go"
   exact q2 (if_neg c4) _ s35
  have e5:=aRk nd5 c4 mem5
  walk_at "go"
  refine aBa hl5 i1 ?_
  walk_at "go"
  refine aEb hl5 fun l6 hl6=>?_
  rw [ec2]
  have s6:=aAm.new (o:=.lst (ps.map V.str)) hl6
  have g6:=aAd (H:=G5) (a:=l6) (o:=.lst (ps.map V.str))
  generalize L2.upd G5 l6 (.lst (ps.map V.str))=G6 at s6 g6 ⊢
  walk_at "go"
  refine ⟨l6,_,rfl,.inl ⟨SqL.of g6,fun lq hlq=>?_⟩⟩
  have s7:=aAm.new (o:=.tup (ps.map V.str)) hlq
  have g7:=aAd (H:=G6) (a:=lq) (o:=.tup (ps.map V.str))
  generalize L2.upd G6 lq (.tup (ps.map V.str))=G7 at s7 g7 ⊢
  walk_at "go"
  refine aA2 fun lp hlp=>?_
  have s8:=aAm.new (o:=.lst []) hlp
  have g8:=aAd (H:=G7) (a:=lp) (o:=.lst [])
  generalize L2.upd G7 lp (.lst [])=G8 at s8 g8 ⊢
  walk_at "go"
  refine aA2 fun li hli=>?_
  have s9:=aAm.new (o:=.lst [.str nm,.ref lq,.ref lp]) hli
  walk_at "go"
  have s37:=(s35.trans s6).trans s7
  exact q1 c4 li lq lp _ ((s37.trans s8).trans s9) ((s37.trans s8).free hli) (s37.free hlp) (fun e=>by rw [e,g8] at hli; cases hli) aAd (s9 _ _ (s8 _ _ g7)) (s9 _ _ g8)
set_option maxHeartbeats 0 in
theorem aW1 (T:Bl mg) (d:Df K mg "_law_read" aQs ["_law_text_here"]  ) (W:XmS mg xt x0 x1 x4 x5 x10) (R_NoText:XrS K xt x0 x1 x4 x5 x10 x5 5) (o_begun:Okf P w K mg base k "_law_begun" ["_law_words","_law_known"] (aK8 K)) (o_plain_of:Okf P w K mg base k "_law_plain_of" ["_law_words","_law_known"] (aHb K)):Okf P w K mg base (k+1) "_law_read" ["_law_text_here"] (aNz K):=by
 refine Okf.of d aC5 (fun vs H Q E h=>?_) (fun f cdv A outer s H vs Q E hr h=>?_)
 ·obtain ⟨z,rfl,_⟩:=h
  rfl
 ·obtain ⟨z,rfl,hz,q1,q2⟩:=h
  refine ⟨_,(@aAe _ _ _ _ _ (@aAp _ _ (i:=1) _ _ _ _ aC5.nd rfl (by first | exact Or.inl rfl | exact Or.inr rfl) (@aA4 _ _ _ _ (@aAc _)) (by rfl) (by first | exact .inl rfl | exact .inr rfl | assumption)) (@aAe _ _ _ _ _ (@aAp _ _ (i:=2) _ _ _ _ aC5.nd rfl (by first | exact Or.inl rfl | exact Or.inr rfl) (@aOk _ _) (by rfl) (by first | exact .inl rfl | exact .inr rfl | assumption)) (@aAe _ _ _ _ _ (@aAp _ _ (i:=3) _ _ _ _ aC5.nd rfl (by first | exact Or.inl rfl | exact Or.inr rfl) (@aBj _ _ _) (by rfl) (by first | exact .inl rfl | exact .inr rfl | assumption)) (@aAe _ _ _ _ _ (@aAp _ _ (i:=4) _ _ _ _ aC5.nd rfl (by first | exact Or.inl rfl | exact Or.inr rfl) (@aB4 _ _ _ _ _ _ _ _ _ _ _ _ PySem.F.plainAttrs_str PySem.F.slot_str_split PySem.F.type_str_split aCu (pv 0) (@aAa _ _ _ _ _ (@aAi _ _ _ _) (@aAc _) (by rfl)) (by rfl) (by rfl) (by rfl) (by rfl) (by rfl)) (by rfl) (by first | exact .inl rfl | exact .inr rfl | assumption)) (@aAe _ _ _ _ _ (@aDq _ _ _ _ _ _ _ _ PassesOwn.never rfl (@aCb _ _ _ _ (pv 4)) (@aAx _ _ (i:=5) _ aC5.nd rfl (by first | exact Or.inl rfl | exact Or.inr rfl) (by first | exact .inl rfl | exact .inr rfl | assumption)) (@aAe _ _ _ _ _ (@aAp _ _ (i:=6) _ _ _ _ aC5.nd rfl (by first | exact Or.inl rfl | exact Or.inr rfl) (@aB4 _ _ _ _ _ _ _ _ _ _ _ _ PySem.F.plainAttrs_str PySem.F.slot_str_split PySem.F.type_str_split aCu (pv 5) (@aAa _ _ _ _ _ (@aAi _ _ _ _) (@aAc _) (by rfl)) (by rfl) (by rfl) (by rfl) (by rfl) (by rfl)) (by rfl) (by first | exact .inl rfl | exact .inr rfl | assumption)) (@aAe _ _ _ _ _ (@aAp _ _ (i:=7) _ _ _ _ aC5.nd rfl (by first | exact Or.inl rfl | exact Or.inr rfl) (@aAn _ _ _ _ _ _ _ _ _ _ o_plain_of hr rfl (@aAa _ _ _ _ _ (pv 6) (@aAa _ _ _ _ _ (pv 2) (@aAc _) (by rfl)) (by rfl)) (by decide) (by rfl) (by rfl)) (by rfl) (by first | exact .inl rfl | exact .inr rfl | assumption)) (@aAe _ _ _ _ _ (@aAp _ _ (i:=8) _ _ _ _ aC5.nd rfl (by first | exact Or.inl rfl | exact Or.inr rfl) (@aAn _ _ _ _ _ _ _ _ _ _ o_begun hr rfl (@aAa _ _ _ _ _ (pv 6) (@aAa _ _ _ _ _ (pv 2) (@aAc _) (by rfl)) (by rfl)) (by decide) (by rfl) (by rfl)) (by rfl) (by first | exact .inl rfl | exact .inr rfl | assumption)) (@aAf _ _ _ (@aA6 _ _ _ _ _ _ _ _ (@PW.pt _ _ _ (@aCf _ _ _ _ _ _ _ (@aAl _ _ _ _ _ _ _ _ aCt (pv 7) (@aBj _ _ _) (aAo _)) (@aCl _ _ _ _ (@aAl _ _ _ _ _ _ _ _ aHw (pv 3) (@aBj _ _ _) (aAo _))))) (@aAf _ _ _ (@aBh _ _ _ _ (@aB4 _ _ _ _ _ _ _ _ _ _ _ _ PySem.F.plainAttrs_list PySem.F.slot_list_append PySem.F.type_list_append aBm (pv 1) (@aAa _ _ _ _ _ (pv 7) (@aAc _) (by rfl)) (by rfl) (by rfl) (by rfl) (by rfl) (by rfl)) (by rfl))) (@aAf _ _ _ (@aA6 _ _ _ _ _ _ _ _ (@aAl _ _ _ _ _ _ _ _ aCt (pv 7) (@aBj _ _ _) (aAo _)) (@aAf _ _ _ (@aBh _ _ _ _ (@aB4 _ _ _ _ _ _ _ _ _ _ _ _ PySem.F.plainAttrs_list PySem.F.slot_list_append PySem.F.type_list_append aBm (@aAr _ _ _ _ _ _ _ aAt (pv 3) (@aAb _ _ _ _) (fun _ _=>rfl)) (@aAa _ _ _ _ _ (pv 7) (@aAc _) (by rfl)) (by rfl) (by rfl) (by rfl) (by rfl) (by rfl)) (by rfl))) (@aAf _ _ _ (@aA6 _ _ _ _ _ _ _ _ (@PW.pt _ _ _ (@aCf _ _ _ _ _ _ _ (@aAl _ _ _ _ _ _ _ _ aCt (pv 8) (@aBj _ _ _) (aAo _)) (@aCl _ _ _ _ (@aAl _ _ _ _ _ _ _ _ aHw (pv 3) (@aBj _ _ _) (aAo _))))) (@aAf _ _ _ (@aAp _ _ (i:=3) _ _ _ _ aC5.nd rfl (by first | exact Or.inl rfl | exact Or.inr rfl) (pv 8) (by rfl) (by first | exact .inl rfl | exact .inr rfl | assumption))) (@aAf _ _ _ (@aA6 _ _ _ _ _ _ _ _ (@PW.pt _ _ _ (@aCf _ _ _ _ _ _ _ (@aAl _ _ _ _ _ _ _ _ (aA0 hr.units) (pv 6) (@aA4 _ _ _ _ (@aAa _ _ _ _ _ (@aAi _ _ _ _) (@aAc _) (by rfl))) (aAo _)) (@aCf _ _ _ _ _ _ _ (@aAl _ _ _ _ _ _ _ _ aCt (pv 3) (@aBj _ _ _) (aAo _)) (@aCl _ _ _ _ (@aAl _ _ _ _ _ _ _ _ (aD5 hr.units) (@aAr _ _ _ _ _ _ _ aAt (pv 3) (@aAb _ _ _ _) (fun _ _=>rfl)) (@aA4 _ _ _ _ (@aAc _)) (aAo _)))))) (@aAe _ _ _ _ _ (@aBh _ _ _ _ (@aB4 _ _ _ _ _ _ _ _ _ _ _ _ PySem.F.plainAttrs_list PySem.F.slot_list_append PySem.F.type_list_append aBm (pv 1) (@aAa _ _ _ _ _ (@aBy _ _ _ _ _ (@aAa _ _ _ _ _ (@aAi _ _ _ _) (@aAa _ _ _ _ _ (@aAr _ _ _ _ _ _ _ aAt (pv 3) (@aAb _ _ _ _) (fun _ _=>rfl)) (@aAa _ _ _ _ _ (@aAr _ _ _ _ _ _ _ aAt (pv 3) (@aAb _ _ _ _) (fun _ _=>rfl)) (@aAa _ _ _ _ _ (@aA8 _ _ _ _ _ _ _ _ _ aBe rfl T.z_tuple aCo (@aAa _ _ _ _ _ (@aAr _ _ _ _ _ _ _ aAt (pv 3) (@aAb _ _ _ _) (fun _ _=>rfl)) (@aAc _) (by rfl)) (by decide) (by decide) (by rfl) (by rfl)) (@aAc _) (by rfl)) (by rfl)) (by rfl)) (by rfl))) (@aAc _) (by rfl)) (by rfl) (by rfl) (by rfl) (by rfl) (by rfl)) (by rfl)) (@aAe _ _ _ _ _ (@aE5 _ _ _ _ _ _ _ _ _ hr.u1 (pv 2) (@aAr _ _ _ _ _ _ _ aAt (pv 3) (@aAb _ _ _ _) (fun _ _=>rfl)) (@aAk _ _ _ _ _ _ _ _ _ aBo rfl T.z_len aAz (@aAa _ _ _ _ _ (@aAr _ _ _ _ _ _ _ aAt (pv 3) (@aAb _ _ _ _) (fun _ _=>rfl)) (@aAc _) (by rfl)) (by decide) (by decide) (by rfl) (by rfl)) rfl) (@aAf _ _ _ (@aAp _ _ (i:=3) _ _ _ _ aC5.nd rfl (by first | exact Or.inl rfl | exact Or.inr rfl) (@aBj _ _ _) (by rfl) (by first | exact .inl rfl | exact .inr rfl | assumption))))) (@aAf _ _ _ (@aAq _ _ _ _ (@aBj _ _ _)))))))))))))) (by intro _; rfl)) (@aAe _ _ _ _ _ (@aA6 _ _ _ _ _ _ _ _ (@PW.pt _ _ _ (@aHs _ _ _ _ _ _ _ (@aAl _ _ _ _ _ _ _ _ aCt (pv 3) (@aBj _ _ _) (aAo _)) (@aGj _ _ _ _ (@aAl _ _ _ _ _ _ _ _ aJ8 (@aAk _ _ _ _ _ _ _ _ _ aBo rfl T.z_len aAz (@aAa _ _ _ _ _ (pv 4) (@aAc _) (by rfl)) (by decide) (by decide) (by rfl) (by rfl)) (@aAb _ _ _ _) (aAo _))))) (@aAf _ _ _ (@aAq _ _ _ _ (@aBj _ _ _))) (@aAu _)) (@aAf _ _ _ (@aAq _ _ _ _ (pv 1))))))))),?_⟩
  walk_at "go"
  refine aA2 fun lr hlr=>?_
  have s1:=aAm.new (o:=.lst []) hlr
  have g1:=aAd (H:=H) (a:=lr) (o:=.lst [])
  generalize L2.upd H lr (.lst [])=H1 at s1 g1 ⊢
  walk_at "go"
  refine aU0 fun dc hdc=>?_
  have s2:=aAm.new (o:=.dK []) hdc
  have g2:=aAd (H:=H1) (a:=dc) (o:=.dK [])
  generalize L2.upd H1 dc (.dK [])=H2 at s2 g2 ⊢
  walk_at "go"
  refine aDk (z:=z) (y:=sp3) (by decide +kernel) (by omega) fun lt hlt=>?_
  have hfew:=aIu z sp3
  have hsh:∀ p∈Txt.split z sp3,p.length<=z.length:=fun p hp=>aDw hp
  have er:aLf z=if (Txt.split z sp3).length<=60 then LR (fun _=>none) none [] ((Txt.split z sp3).map fun l=>Txt.split l sp1) else none:=by
   unfold aLf aEj
   rw [List.length_map]
  rw [er] at q2
  replace q1:∀ gs l H',(if (Txt.split z sp3).length<=60 then LR (fun _=>none) none [] ((Txt.split z sp3).map fun l=>Txt.split l sp1) else none)=some gs->aAm H H'->GsQ H' l gs->Q (.ref l) H':=fun gs l H' e=>q1 gs l H' (er.trans e)
  clear er
  generalize Txt.split z sp3=L at hfew hsh q1 q2 hlt ⊢
  have hml:(L.map V.str).length=L.length:=List.length_map _
  have s3:=aAm.new (o:=.lst (L.map V.str)) hlt
  have g3:=aAd (H:=H2) (a:=lt) (o:=.lst (L.map V.str))
  generalize L2.upd H2 lt (.lst (L.map V.str))=H3 at s3 g3 ⊢
  generalize hR:LR (fun _=>none) none [] (L.map fun l=>Txt.split l sp1)=R at q1 q2
  have bad:R=none->∀ H',aAm H H'->Q .non H':=fun e=>q2 (by rw [e]; split <;> rfl)
  walk_at "go"
  refine aCa (SqL.of g3) ?_
  refine aMw (xs:=L.map V.str) (fun i σ G=>∃ (f':Cnt) (ins:Option aBf) (gs:List aCp) (o:V) (o5 o6 o7 o8:Option V),σ=[some (.str z),some (.ref lr),some (.ref dc),some o,some (.ref lt),o5,o6,o7,o8]/\RdI H L lt lr dc R i f' ins gs o G) ⟨fun _=>none,none,[],.non,_,_,_,_,rfl,(s1.trans s2).trans s3,g3,⟨[],s3 _ _ (s2 _ _ g1),.nil⟩,Nat.le_refl _,⟨[],s3 _ _ g2,Nat.le_refl _,fun _=>rfl⟩,(fun _ _ h=>nomatch h),⟨(fun e=>by rw [e,s2 _ _ g1] at hlt; cases hlt),(fun e=>by rw [e,g2] at hlt; cases hlt),(fun e=>by rw [← e,g1] at hdc; cases hdc),hlr,s1.free hdc⟩,rfl,hR⟩ ?_ ?_ ?_
  ·rintro i σ G hi ⟨f',ins,gs,o,o5,o6,o7,o8,rfl,I⟩
   exact SqL.of I.t
  ·rintro NX BK hNX i x σ G hx ⟨f',ins,gs,o,o5,o6,o7,o8,rfl,I⟩
   rw [List.getElem?_map] at hx
   cases hl:L[i]? with
   | none=>rw [hl] at hx; cases hx
   | some w1 =>
   rw [hl] at hx
   cases (Option.some.inj hx:V.str w1=x)
   have hw1:=hsh w1 (List.mem_of_getElem? hl)
   have hi:i < L.length:=(List.getElem?_eq_some_iff.mp hl).1
   walk_at "go"
   refine aDk (z:=w1) (y:=sp1) (by decide +kernel) (by omega) fun lw hlw=>?_
   have hwt:wt (Txt.split w1 sp1)<=200000:=by rw [aJh]; omega
   have hwn:=aDv w1 sp1
   have t1:=aAm.new (o:=.lst ((Txt.split w1 sp1).map V.str)) hlw
   have k1:=aAd (H:=G) (a:=lw) (o:=.lst ((Txt.split w1 sp1).map V.str))
   generalize L2.upd G lw (.lst ((Txt.split w1 sp1).map V.str))=G1 at t1 k1 ⊢
   replace I:=I.same t1
   walk_at "go"
   refine ⟨lw,dc,f',i,_,rfl,hwn,k1,hwt,I.k,I.ok,fun t v G2 et t2 rq=>?_,fun en G2 t2=>?_⟩
   ·replace I:=I.same t2
    replace k1:=t2 _ _ k1
    obtain ⟨vp,_,_,rfl,_,_⟩:=rq.head
    walk_at "go"
    refine ⟨lw,dc,f',i,_,rfl,hwn,k1,hwt,I.k,fun p li lq lp G3 eb=>?_,fun _ G3 t3=>?_⟩
    ·obtain ⟨e,_⟩:=aGd eb
     rw [e,aE7] at et
     cases et
    replace I:=I.same t3
    replace rq:=rq.tk t3.tk
    cases ins with
    | none =>
     obtain rfl:o=.non:=I.io
     obtain ⟨xs,hxs,px⟩:=I.g
     have hxl:=Paired.length px
     have hgl:=I.gl
     walk_at "go"
     refine aOh hxs (by omega) ?_
     have k4:Kp lr G3 (L2.upd G3 lr (.lst (xs++[.ref vp]))):=Kp.upd
     walk_at "go"
     exact hNX _ _ _ ⟨f',none,_,_,_,_,_,_,rfl,I.row hl et rq hxs k4 (TK.lst hxs) aAd⟩
    | some p =>
     obtain ⟨li,lq,lp,ys,rfl,a1,a2,a3,pr,yl,m⟩:=I.io
     walk_at "go"
     refine aOh a3 (by omega) ?_
     have k4:Kp lp G3 (L2.upd G3 lp (.lst (ys++[.ref vp]))):=Kp.upd
     walk_at "go"
     exact hNX _ _ _ ⟨f',some _,_,_,_,_,_,_,rfl,I.inrow hl et rq rfl a1 a3 k4 (TK.lst a3) aAd⟩
   replace I:=I.same t2
   replace k1:=t2 _ _ k1
   walk_at "go"
   refine ⟨lw,dc,f',i,_,rfl,hwn,k1,hwt,I.k,fun p li lq lp G3 eb t3 f1 f2 n12 b1 b2 b3=>?_,fun eb G3 t3=>?_⟩
   ·cases ins with
    | none =>
     obtain rfl:o=.non:=I.io
     walk_at "go"
     exact hNX _ _ _ ⟨f',some _,_,_,_,_,_,_,rfl,I.begin hl en eb t3 f1 f2 n12 b1 b2 b3⟩
    | some p' =>
     obtain ⟨e,_⟩:=aGd eb
     have hne:¬ Txt.split w1 sp1=[("end":Str)]:=fun h=>by
      rw [h] at e
      exact absurd (List.cons.inj e).1 (by decide +kernel)
     replace I:=I.same t3
     replace k1:=t3 _ _ k1
     obtain ⟨li',lq',lp',ys,rfl,a1,a2,a3,pr,yl,m⟩:=I.io
     walk_at "go"
     refine aA2 fun l9 hl9=>?_
     have t9:=aAm.new (o:=.lst [V.str "end"]) hl9
     have k9:=aAd (H:=G3) (a:=l9) (o:=.lst [V.str "end"])
     generalize L2.upd G3 l9 (.lst [V.str "end"])=G9 at t9 k9 ⊢
     refine aGl (xs:=Txt.split w1 sp1) (ys:=[("end":Str)]) (t9 _ _ k1) k9 ?_
     replace I:=I.same t9
     rw [decide_eq_false hne]
     walk_at "go"
     exact bad (I.bad hl en (fun h=>nomatch h) fun p h h'=>absurd h' hne) _ I.sm
   replace I:=I.same t3
   replace k1:=t3 _ _ k1
   cases ins with
   | none =>
    obtain rfl:o=.non:=I.io
    walk_at "go"
    refine aA2 fun l9 hl9=>?_
    have t9:=aAm.new (o:=.lst [V.str "end"]) hl9
    have k9:=aAd (H:=G3) (a:=l9) (o:=.lst [V.str "end"])
    generalize L2.upd G3 l9 (.lst [V.str "end"])=G9 at t9 k9 ⊢
    refine aGl (xs:=Txt.split w1 sp1) (ys:=[("end":Str)]) (t9 _ _ k1) k9 ?_
    replace I:=I.same t9
    have en0:=bad (I.bad hl en (fun _=>eb) fun p h=>nomatch h) _ I.sm
    by_cases he:Txt.split w1 sp1=[("end":Str)]
    ·rw [decide_eq_true he]
     walk_at "go"
     exact en0
    ·rw [decide_eq_false he]
     walk_at "go"
     exact en0
   | some p =>
    obtain ⟨li,lq,lp,ys,rfl,a1,a2,a3,pr,yl,m⟩:=I.io
    walk_at "go"
    refine aA2 fun l9 hl9=>?_
    have t9:=aAm.new (o:=.lst [V.str "end"]) hl9
    have k9:=aAd (H:=G3) (a:=l9) (o:=.lst [V.str "end"])
    generalize L2.upd G3 l9 (.lst [V.str "end"])=G9 at t9 k9 ⊢
    refine aGl (xs:=Txt.split w1 sp1) (ys:=[("end":Str)]) (t9 _ _ k1) k9 ?_
    replace I:=I.same t9
    replace a1:=t9 _ _ a1
    replace a2:=t9 _ _ a2
    replace a3:=t9 _ _ a3
    replace pr:=Pd.imp pr fun _ _ f=>aBp.tk f t9.tk
    by_cases he:Txt.split w1 sp1=[("end":Str)]
    rotate_left
    ·rw [decide_eq_false he]
     walk_at "go"
     exact bad (I.bad hl en (fun h=>nomatch h) fun p h h'=>absurd h' he) _ I.sm
    rw [decide_eq_true he]
    walk_at "go"
    refine aA2 fun l8 hl8=>?_
    have t8:=aAm.new (o:=.lst []) hl8
    have k8:=aAd (H:=G9) (a:=l8) (o:=.lst [])
    generalize L2.upd G9 l8 (.lst [])=G8 at t8 k8 ⊢
    replace I:=I.same t8
    replace a1:=t8 _ _ a1
    replace a2:=t8 _ _ a2
    replace a3:=t8 _ _ a3
    replace pr:=Pd.imp pr fun _ _ f=>aBp.tk f t8.tk
    refine bBf a3 pr k8 ?_
    by_cases hp:p.2.2=[]
    ·rw [hp]
     walk_at "go"
     exact bad (I.bad hl en (fun h=>nomatch h) fun p' h h'=>by cases h; exact hp) _ I.sm
    rw [show p.2.2.isEmpty=false by cases hpp:p.2.2 with | nil=>exact absurd hpp hp | cons _ _=>rfl]
    obtain ⟨xs,hxs,px⟩:=I.g
    have hxl:=Paired.length px
    have hgl:=I.gl
    walk_at "go"
    refine ⟨lp,_,rfl,.inl ⟨SqL.of a3,fun pa hpa=>?_⟩⟩
    have u1:=aAm.new (o:=.tup ys) hpa
    have c1:=aAd (H:=G8) (a:=pa) (o:=.tup ys)
    generalize L2.upd G8 pa (.tup ys)=G10 at u1 c1 ⊢
    walk_at "go"
    refine aBr fun pb hpb=>?_
    have u2:=aAm.new (o:=.tup [.str "piece",.str p.1,.ref lq,.ref pa]) hpb
    have c2:=aAd (H:=G10) (a:=pb) (o:=.tup [.str "piece",.str p.1,.ref lq,.ref pa])
    generalize L2.upd G10 pb (.tup [.str "piece",.str p.1,.ref lq,.ref pa])=G11 at u2 c2 ⊢
    have u12:=u1.trans u2
    replace I:=I.same u12
    have pq:aFz G11 (.ref pb) p:=⟨pb,lq,pa,ys,rfl,c2,u12 _ _ a2,u2 _ _ c1,Pd.imp pr fun _ _ f=>aBp.tk f u12.tk⟩
    replace hxs:=u12 _ _ hxs
    obtain ⟨kd,hkd,hkl,_⟩:=I.k
    obtain ⟨n1,n2,n3,_⟩:=I.ne
    walk_at "go"
    refine aOh hxs (by omega) ?_
    have k4:Kp lr G11 (L2.upd G11 lr (.lst (xs++[.ref pb]))):=Kp.upd
    have tk4:=TK.lst (o:=.lst (xs++[.ref pb])) hxs
    have g4:=aAd (H:=G11) (a:=lr) (o:=.lst (xs++[.ref pb]))
    generalize L2.upd G11 lr (.lst (xs++[.ref pb]))=G12 at k4 tk4 g4 ⊢
    have a1':=k4 _ _ m.1.1 (u12 _ _ a1)
    have a2':=tk4 _ _ (u12 _ _ a2)
    have hkd':=k4 _ _ (fun e=>n3 e.symm) hkd
    walk_at "go"
    refine r_dPB hkd' (by omega) ?_
    rw [List.length_map]
    have k5:Kp dc G12 (L2.upd G12 dc (.dK (aEu kd (Sum.inr p.1) (.int (p.2.1.length:Int))))):=Kp.upd
    walk_at "go"
    exact hNX _ _ _ ⟨_,none,_,.non,_,_,_,_,rfl,I.close hl he hp pq hxs hkd k4 tk4 g4 k5 (TK.dic hkd') aAd⟩
  rintro σ G ⟨f',ins,gs,o,o5,o6,o7,o8,rfl,I⟩
  rw [hml] at I
  cases ins with
  | some p =>
   obtain ⟨li,lq,lp,ys,rfl,a1,a2,a3,pr,yl,m⟩:=I.io
   walk_at "go"
   exact bad I.done _ I.sm
  | none =>
  obtain rfl:o=.non:=I.io
  have gT:=I.t
  walk_at "go"
  by_cases h60:L.length<=60
  rotate_left
  ·walk_at "go"
   exact q2 (if_neg h60) _ I.sm
  walk_at "go"
  exact q1 gs lr G (by rw [if_pos h60]; exact I.done) I.sm I.g
set_option maxHeartbeats 0 in
theorem aWy (T:Bl mg) (d:Df K mg "_law_word" aQp ["_law_number_here","_law_names_here"]  ) (W:XmS mg xt x0 x1 x4 x5 x10) (R_NoText:XrS K xt x0 x1 x4 x5 x10 x5 5):Okf P w K mg base (k+1) "_law_word" ["_law_number_here","_law_names_here"] aJi:=by
 refine Okf.of d aJn (fun vs H Q E h=>?_) (fun f cdv A outer s H vs Q E hr h=>?_)
 ·obtain ⟨n,ln,U,rfl,_⟩:=h
  rfl
 ·obtain ⟨n,ln,U,rfl,hn,hln,hUl,hU,q⟩:=h
  refine ⟨_,(@aAe _ _ _ _ _ (@aAp _ _ (i:=2) _ _ _ _ aJn.nd rfl (by first | exact Or.inl rfl | exact Or.inr rfl) (@aA4 _ _ _ _ (@aAa _ _ _ _ _ (@aAi _ _ _ _) (@aAa _ _ _ _ _ (@aAi _ _ _ _) (@aAa _ _ _ _ _ (@aAi _ _ _ _) (@aAa _ _ _ _ _ (@aAi _ _ _ _) (@aAa _ _ _ _ _ (@aAi _ _ _ _) (@aAa _ _ _ _ _ (@aAi _ _ _ _) (@aAa _ _ _ _ _ (@aAi _ _ _ _) (@aAa _ _ _ _ _ (@aAi _ _ _ _) (@aAa _ _ _ _ _ (@aAi _ _ _ _) (@aAa _ _ _ _ _ (@aAi _ _ _ _) (@aAa _ _ _ _ _ (@aAi _ _ _ _) (@aAa _ _ _ _ _ (@aAi _ _ _ _) (@aAa _ _ _ _ _ (@aAi _ _ _ _) (@aAa _ _ _ _ _ (@aAi _ _ _ _) (@aAa _ _ _ _ _ (@aAi _ _ _ _) (@aAa _ _ _ _ _ (@aAi _ _ _ _) (@aAc _) (by rfl)) (by rfl)) (by rfl)) (by rfl)) (by rfl)) (by rfl)) (by rfl)) (by rfl)) (by rfl)) (by rfl)) (by rfl)) (by rfl)) (by rfl)) (by rfl)) (by rfl)) (by rfl))) (by rfl) (by first | exact .inl rfl | exact .inr rfl | assumption)) (@aAe _ _ _ _ _ (@aAp _ _ (i:=2) _ _ _ _ aJn.nd rfl (by first | exact Or.inl rfl | exact Or.inr rfl) (@aAj _ _ _ _ _ _ _ _ aAs (pv 2) (@aA4 _ _ _ _ (@aAa _ _ _ _ _ (@aAi _ _ _ _) (@aAa _ _ _ _ _ (@aAi _ _ _ _) (@aAa _ _ _ _ _ (@aAi _ _ _ _) (@aAa _ _ _ _ _ (@aAi _ _ _ _) (@aAa _ _ _ _ _ (@aAi _ _ _ _) (@aAa _ _ _ _ _ (@aAi _ _ _ _) (@aAa _ _ _ _ _ (@aAi _ _ _ _) (@aAa _ _ _ _ _ (@aAi _ _ _ _) (@aAa _ _ _ _ _ (@aAi _ _ _ _) (@aAa _ _ _ _ _ (@aAi _ _ _ _) (@aAc _) (by rfl)) (by rfl)) (by rfl)) (by rfl)) (by rfl)) (by rfl)) (by rfl)) (by rfl)) (by rfl)) (by rfl)))) (by rfl) (by first | exact .inl rfl | exact .inr rfl | assumption)) (@aAe _ _ _ _ _ (@aAp _ _ (i:=2) _ _ _ _ aJn.nd rfl (by first | exact Or.inl rfl | exact Or.inr rfl) (@aAj _ _ _ _ _ _ _ _ aAs (@aAj _ _ _ _ _ _ _ _ aAs (pv 2) (@aA4 _ _ _ _ (@aAa _ _ _ _ _ (@aAi _ _ _ _) (@aAa _ _ _ _ _ (@aAi _ _ _ _) (@aAa _ _ _ _ _ (@aAi _ _ _ _) (@aAa _ _ _ _ _ (@aAi _ _ _ _) (@aAa _ _ _ _ _ (@aAi _ _ _ _) (@aAa _ _ _ _ _ (@aAi _ _ _ _) (@aAa _ _ _ _ _ (@aAi _ _ _ _) (@aAa _ _ _ _ _ (@aAi _ _ _ _) (@aAc _) (by rfl)) (by rfl)) (by rfl)) (by rfl)) (by rfl)) (by rfl)) (by rfl)) (by rfl)))) (pv 1)) (by rfl) (by first | exact .inl rfl | exact .inr rfl | assumption)) (@aAf _ _ _ (@aAq _ _ _ _ (@aAr _ _ _ _ _ _ _ aAt (pv 2) (@aAj _ _ _ _ _ _ _ _ aA5 (pv 0) (@aAk _ _ _ _ _ _ _ _ _ aBo rfl T.z_len aAz (@aAa _ _ _ _ _ (pv 2) (@aAc _) (by rfl)) (by decide) (by decide) (by rfl) (by rfl))) (fun _ _=>rfl))))))),?_⟩
  walk_at "go"
  refine aQv (by decide +kernel) fun l1 G1 y1 a1 b1 s1 g1=>?_
  walk_at "go"
  refine aQv (by decide +kernel) fun l2 G2 y2 a2 b2 s2 g2=>?_
  refine aGm (s2 _ _ g1) g2 (by omega) fun l3 hl3=>?_
  have s3:=aAm.new (o:=.lst (y1++y2)) hl3
  have g3:=aAd (H:=G2) (a:=l3) (o:=.lst (y1++y2))
  generalize L2.upd G2 l3 (.lst (y1++y2))=G3 at s3 g3 ⊢
  have b3:(y1++y2).length<=32:=by rw [List.length_append]; omega
  have a3:(y1++y2).all shB=true:=by rw [List.all_append,a1,a2]; rfl
  generalize y1++y2=y3 at g3 a3 b3
  walk_at "go"
  refine aQv (by decide +kernel) fun l4 G4 y4 a4 b4 s4 g4=>?_
  refine aGm (s4 _ _ g3) g4 (by omega) fun l5 hl5=>?_
  have s5:=aAm.new (o:=.lst (y3++y4)) hl5
  have g5:=aAd (H:=G4) (a:=l5) (o:=.lst (y3++y4))
  generalize L2.upd G4 l5 (.lst (y3++y4))=G5 at s5 g5 ⊢
  have b5:(y3++y4).length<=48:=by rw [List.length_append]; omega
  have a5:(y3++y4).all shB=true:=by rw [List.all_append,a3,a4]; rfl
  generalize y3++y4=y5 at g5 a5 b5
  have s15:=(((s1.trans s2).trans s3).trans s4).trans s5
  have hlm:(U.map V.str).length=8:=by rw [List.length_map]; exact hUl
  walk_at "go"
  refine aGm g5 (s15 _ _ hln) (by omega) fun l6 hl6=>?_
  have s6:=aAm.new (o:=.lst (y5++U.map V.str)) hl6
  have g6:=aAd (H:=G5) (a:=l6) (o:=.lst (y5++U.map V.str))
  generalize L2.upd G5 l6 (.lst (y5++U.map V.str))=G6 at s6 g6 ⊢
  have b6:8<=(y5++U.map V.str).length/\(y5++U.map V.str).length<=56:=by rw [List.length_append]; omega
  have a6:(y5++U.map V.str).all shB=true:=by rw [List.all_append,a5,aVz fun s hs=>Nat.le_trans (aFm (hU s hs)) (by decide)]; rfl
  generalize y5++U.map V.str=y6 at g6 a6 b6
  walk_at "go"
  obtain ⟨v,hv,ev⟩:=bAv (xs:=y6) (i:=n % (y6.length:Int)) (Int.emod_nonneg _ (by omega)) (Int.emod_lt_of_pos _ (by omega))
  obtain ⟨w,rfl,hw⟩:=aVy (List.all_eq_true.mp a6 v hv)
  refine aBa g6 ev ?_
  walk_at "go"
  exact q w _ hw (s15.trans s6)
set_option maxHeartbeats 0 in
theorem aRb (T:Bl mg) (d:Df K mg "_law_spoilt" aJs ["_law_words","_law_number_here","_law_names_here"]  ) (W:XmS mg xt x0 x1 x4 x5 x10) (R_NoText:XrS K xt x0 x1 x4 x5 x10 x5 5) (o_word:Okf P w K mg base k "_law_word" ["_law_number_here","_law_names_here"] aJi):Okf P w K mg base (k+1) "_law_spoilt" ["_law_words","_law_number_here","_law_names_here"] (aIw K):=by
 refine Okf.of d aHg (fun vs H Q E h=>?_) (fun f cdv A outer s H vs Q E hr h=>?_)
 ·obtain ⟨l,ws,n,ln,U,rfl,_⟩:=h
  rfl
 ·obtain ⟨l,ws,n,ln,U,rfl,hl,hw,hn,hln,hUl,hU,q⟩:=h
  refine ⟨_,(@aAe _ _ _ _ _ (@aAp _ _ (i:=3) _ _ _ _ aHg.nd rfl (by first | exact Or.inl rfl | exact Or.inr rfl) (@aAj _ _ _ _ _ _ _ _ aA5 (pv 1) (@aAj _ _ _ _ _ _ _ _ aAs (@aAk _ _ _ _ _ _ _ _ _ aBo rfl T.z_len aAz (@aAa _ _ _ _ _ (pv 0) (@aAc _) (by rfl)) (by decide) (by decide) (by rfl) (by rfl)) (@aAb _ _ _ _))) (by rfl) (by first | exact .inl rfl | exact .inr rfl | assumption)) (@aAe _ _ _ _ _ (@aAp _ _ (i:=4) _ _ _ _ aHg.nd rfl (by first | exact Or.inl rfl | exact Or.inr rfl) (@aAn _ _ _ _ _ _ _ _ _ _ o_word hr rfl (@aAa _ _ _ _ _ (@aAj _ _ _ _ _ _ _ _ aAw (pv 1) (@aAb _ _ _ _)) (@aAa _ _ _ _ _ (pv 2) (@aAc _) (by rfl)) (by rfl)) (by decide) (by rfl) (by rfl)) (by rfl) (by first | exact .inl rfl | exact .inr rfl | assumption)) (@aAe _ _ _ _ _ (@aA6 _ _ _ _ _ _ _ _ (@aAl _ _ _ _ _ _ _ _ (aA0 hr.units) (@aAj _ _ _ _ _ _ _ _ aA5 (@aAj _ _ _ _ _ _ _ _ aAw (pv 1) (@aAb _ _ _ _)) (@aAb _ _ _ _)) (@aAb _ _ _ _) (aAo _)) (@aAf _ _ _ (@aAq _ _ _ _ (@aAj _ _ _ _ _ _ _ _ aAs (@aAy _ _ _ _ _ _ _ _ _ _ aBv (pv 0) (@aBi _) (@aBb _ _ _ (pv 3))) (@aAy _ _ _ _ _ _ _ _ _ _ aBv (pv 0) (@aBb _ _ _ (@aAj _ _ _ _ _ _ _ _ aAs (pv 3) (@aAb _ _ _ _))) (@aBi _))))) (@aAu _)) (@aAe _ _ _ _ _ (@aA6 _ _ _ _ _ _ _ _ (@aAl _ _ _ _ _ _ _ _ (aA0 hr.units) (@aAj _ _ _ _ _ _ _ _ aA5 (@aAj _ _ _ _ _ _ _ _ aAw (pv 1) (@aAb _ _ _ _)) (@aAb _ _ _ _)) (@aAb _ _ _ _) (aAo _)) (@aAf _ _ _ (@aAq _ _ _ _ (@aAj _ _ _ _ _ _ _ _ aAs (@aAj _ _ _ _ _ _ _ _ aAs (@aAy _ _ _ _ _ _ _ _ _ _ aBv (pv 0) (@aBi _) (@aBb _ _ _ (pv 3))) (@aA4 _ _ _ _ (@aAa _ _ _ _ _ (pv 4) (@aAc _) (by rfl)))) (@aAy _ _ _ _ _ _ _ _ _ _ aBv (pv 0) (@aBb _ _ _ (@aAj _ _ _ _ _ _ _ _ aAs (pv 3) (@aAb _ _ _ _))) (@aBi _))))) (@aAu _)) (@aAf _ _ _ (@aAq _ _ _ _ (@aAj _ _ _ _ _ _ _ _ aAs (@aAj _ _ _ _ _ _ _ _ aAs (@aAy _ _ _ _ _ _ _ _ _ _ aBv (pv 0) (@aBi _) (@aBb _ _ _ (pv 3))) (@aA4 _ _ _ _ (@aAa _ _ _ _ _ (pv 4) (@aAc _) (by rfl)))) (@aAy _ _ _ _ _ _ _ _ _ _ aBv (pv 0) (@aBb _ _ _ (pv 3)) (@aBi _))))))))),?_⟩
  have hml:(ws.map V.str).length=ws.length:=List.length_map _
  have hwl:=aG8 ws
  walk_at "go"
  obtain ⟨k,hk,ek⟩:∃ k:Nat,k<=ws.length/\n % (((ws.map V.str).length:Int)+1)=(k:Int):=⟨(n % (((ws.map V.str).length:Int)+1)).toNat,by
   have h1:=Int.emod_nonneg n (show ((ws.map V.str).length:Int)+1≠0 by omega)
   have h2:=Int.emod_lt_of_pos n (show 0 < ((ws.map V.str).length:Int)+1 by omega)
   omega,by
   have h1:=Int.emod_nonneg n (show ((ws.map V.str).length:Int)+1≠0 by omega)
   omega⟩
  rw [ek]
  walk_at "go"
  refine ⟨_,ln,U,rfl,Int.fdiv_nonneg hn (by decide),hln,hUl,hU,fun w H1 hw30 s1=>?_⟩
  have hl1:=s1 _ _ hl
  have e1:aDs (ws.map V.str) none (some (k:Int))=(ws.take k).map V.str:=by rw [aSi,List.map_take]
  have e2:aDs (ws.map V.str) (some ((k:Int)+1)) none=(ws.drop (k+1)).map V.str:=by rw [show ((k:Int)+1)=((k+1:Nat):Int) from rfl,aL8,List.map_drop]
  have e3:aDs (ws.map V.str) (some (k:Int)) none=(ws.drop k).map V.str:=by rw [aL8,List.map_drop]
  walk_at "go"
  have hL1:(ws.take k).length<=ws.length:=by rw [List.length_take]; omega
  have hL2:(ws.drop (k+1)).length<=ws.length:=by rw [List.length_drop]; omega
  have hL3:(ws.drop k).length<=ws.length:=by rw [List.length_drop]; omega
  refine i_d (fun c1=>?_) (fun c1=>?_)
  ·walk_at "go"
   refine aPb hl1 e1 fun l2 G2 t2 g2=>?_
   have hl2:=t2 _ _ hl1
   walk_at "go"
   refine aPb hl2 e2 fun l3 G3 t3 g3=>?_
   refine aPu (t3 _ _ g2) g3 (by omega) fun l4 G4 t4 g4=>?_
   walk_at "go"
   exact q l4 _ G4 (by have:=aNr (ws:=ws) (n:=k) (m:=k+1) (Nat.le_succ k); omega) (((s1.trans t2).trans t3).trans t4) g4
  walk_at "go"
  refine i_d (fun c2=>?_) (fun c2=>?_)
  ·walk_at "go"
   refine aPb hl1 e1 fun l2 G2 t2 g2=>?_
   have hl2:=t2 _ _ hl1
   walk_at "go"
   refine aOe fun l3 G3 t3 g3=>?_
   refine aPu (t3 _ _ g2) g3 (by show _+1<=_; omega) fun l4 G4 t4 g4=>?_
   have t24:=(t2.trans t3).trans t4
   have hl4:=t24 _ _ hl1
   walk_at "go"
   refine aPb hl4 e2 fun l5 G5 t5 g5=>?_
   refine aPu (t5 _ _ g4) g5 (by rw [List.length_append]; show _+1+_<=_; omega) fun l6 G6 t6 g6=>?_
   walk_at "go"
   exact q l6 _ G6 (by have:=aKv (ws:=ws) (w:=w) (n:=k) (m:=k+1) (Nat.le_succ k); omega) (((s1.trans t24).trans t5).trans t6) g6
  ·walk_at "go"
   refine aPb hl1 e1 fun l2 G2 t2 g2=>?_
   have hl2:=t2 _ _ hl1
   walk_at "go"
   refine aOe fun l3 G3 t3 g3=>?_
   refine aPu (t3 _ _ g2) g3 (by show _+1<=_; omega) fun l4 G4 t4 g4=>?_
   have t24:=(t2.trans t3).trans t4
   have hl4:=t24 _ _ hl1
   walk_at "go"
   refine aPb hl4 e3 fun l5 G5 t5 g5=>?_
   refine aPu (t5 _ _ g4) g5 (by rw [List.length_append]; show _+1+_<=_; omega) fun l6 G6 t6 g6=>?_
   walk_at "go"
   exact q l6 _ G6 (by have:=aKv (ws:=ws) (w:=w) (Nat.le_refl k); omega) (((s1.trans t24).trans t5).trans t6) g6
set_option maxHeartbeats 0 in
theorem aLq (T:Bl mg) (d:Df K mg "_law_exchanged" aE4 ["_law_text_here","_law_number_here"]  ) (W:XmS mg xt x0 x1 x4 x5 x10) (R_NoText:XrS K xt x0 x1 x4 x5 x10 x5 5):Okf P w K mg base (k+1) "_law_exchanged" ["_law_text_here","_law_number_here"] aN4:=by
 refine Okf.of d aCy (fun vs H Q E h=>?_) (fun f cdv A outer s H vs Q E hr h=>?_)
 ·obtain ⟨z,n,rfl,_⟩:=h
  rfl
 ·obtain ⟨z,n,rfl,hz,hn,q⟩:=h
  refine ⟨_,(@aAe _ _ _ _ _ (@aAp _ _ (i:=2) _ _ _ _ aCy.nd rfl (by first | exact Or.inl rfl | exact Or.inr rfl) (@aB4 _ _ _ _ _ _ _ _ _ _ _ _ PySem.F.plainAttrs_str PySem.F.slot_str_split PySem.F.type_str_split aCu (pv 0) (@aAa _ _ _ _ _ (@aAi _ _ _ _) (@aAc _) (by rfl)) (by rfl) (by rfl) (by rfl) (by rfl) (by rfl)) (by rfl) (by first | exact .inl rfl | exact .inr rfl | assumption)) (@aAe _ _ _ _ _ (@aAp _ _ (i:=3) _ _ _ _ aCy.nd rfl (by first | exact Or.inl rfl | exact Or.inr rfl) (@aAj _ _ _ _ _ _ _ _ aA5 (pv 1) (@aAk _ _ _ _ _ _ _ _ _ aBo rfl T.z_len aAz (@aAa _ _ _ _ _ (pv 2) (@aAc _) (by rfl)) (by decide) (by decide) (by rfl) (by rfl))) (by rfl) (by first | exact .inl rfl | exact .inr rfl | assumption)) (@aAe _ _ _ _ _ (@aAp _ _ (i:=4) _ _ _ _ aCy.nd rfl (by first | exact Or.inl rfl | exact Or.inr rfl) (@aAj _ _ _ _ _ _ _ _ aA5 (@aAj _ _ _ _ _ _ _ _ aAw (pv 1) (@aAb _ _ _ _)) (@aAk _ _ _ _ _ _ _ _ _ aBo rfl T.z_len aAz (@aAa _ _ _ _ _ (pv 2) (@aAc _) (by rfl)) (by decide) (by decide) (by rfl) (by rfl))) (by rfl) (by first | exact .inl rfl | exact .inr rfl | assumption)) (@aAe _ _ _ _ _ (@aAp _ _ (i:=5) _ _ _ _ aCy.nd rfl (by first | exact Or.inl rfl | exact Or.inr rfl) (@aAr _ _ _ _ _ _ _ aAt (pv 2) (pv 3) (fun _ _=>rfl)) (by rfl) (by first | exact .inl rfl | exact .inr rfl | assumption)) (@aAe _ _ _ _ _ (@aOj _ _ _ _ _ _ (@aAr _ _ _ _ _ _ _ aAt (pv 2) (pv 4) (fun _ _=>rfl)) (@aU7 _ _ _ _ _ _ _ (pv 2) (pv 3) aN6 (by intro _; rfl)) (by rfl) (by rfl) (by rfl)) (@aAe _ _ _ _ _ (@aOj _ _ _ _ _ _ (pv 5) (@aU7 _ _ _ _ _ _ _ (pv 2) (pv 4) aN6 (by intro _; rfl)) (by rfl) (by rfl) (by rfl)) (@aAf _ _ _ (@aAq _ _ _ _ (@aB4 _ _ _ _ _ _ _ _ _ _ _ _ PySem.F.plainAttrs_str PySem.F.slot_str_join PySem.F.type_str_join aE8 (@aAi _ _ _ _) (@aAa _ _ _ _ _ (pv 2) (@aAc _) (by rfl)) (by rfl) (by rfl) (by rfl) (by rfl) (by rfl)))))))))),?_⟩
  walk_at "go"
  refine aDk (z:=z) (y:=sp3) (by decide +kernel) (by omega) fun l hl=>?_
  have hfew:=aIu z sp3
  have hpos:=List.length_pos_iff.mpr (aDv z sp3)
  have hsw:=fun i j x y hi hj=>@aS6 z i j x y hi hj
  have hsz:smL (Txt.split z sp3)<=z.length:=by
   have h1:=StrLaws.join_split z sp3
   have:=aH6 (ws:=Txt.split z sp3) sp3 (aDv _ _)
   have e:sp3.length=3:=by decide +kernel
   rw [h1,e] at this
   unfold smL
   omega
  generalize Txt.split z sp3=L at hfew hpos hsw hsz ⊢
  have hml:(L.map V.str).length=L.length:=List.length_map _
  have s1:=aAm.new (o:=.lst (L.map V.str)) hl
  have g1:=aAd (H:=H) (a:=l) (o:=.lst (L.map V.str))
  generalize L2.upd H l (.lst (L.map V.str))=H1 at s1 g1 ⊢
  have pick:∀ n:Int,∃ i:Nat,∃ x,L[i]?=some x/\n % (L.length:Int)=(i:Int):=fun n=>by
   have h1:=Int.emod_nonneg n (show (L.length:Int)≠0 by omega)
   have h2:=Int.emod_lt_of_pos n (show 0 < (L.length:Int) by omega)
   exact ⟨(n % (L.length:Int)).toNat,_,List.getElem?_eq_getElem (by omega),by omega⟩
  walk_at "go"
  rw [hml]
  obtain ⟨i,x,hi,ei⟩:=pick n
  obtain ⟨j,y,hj,ej⟩:=pick (n.fdiv 31)
  rw [ei]
  walk_at "go"
  rw [ej]
  have hil:i < L.length:=(List.getElem?_eq_some_iff.mp hi).1
  have hjl:j < L.length:=(List.getElem?_eq_some_iff.mp hj).1
  have ai:atI (L.map V.str) (i:Int)=some (.str x):=aA7 (by rw [List.getElem?_map,hi]; rfl)
  have aj:atI (L.map V.str) (j:Int)=some (.str y):=aA7 (by rw [List.getElem?_map,hj]; rfl)
  refine aBa g1 ai ?_
  walk_at "go"
  refine aBa g1 aj ?_
  walk_at "go"
  refine aUx g1 (by omega) ?_
  rw [show (L.map V.str).set i (.str y)=(L.set i y).map V.str by rw [List.map_set]]
  have k2:Kp l H1 (L2.upd H1 l (.lst ((L.set i y).map V.str))):=Kp.upd
  have g2:=aAd (H:=H1) (a:=l) (o:=.lst ((L.set i y).map V.str))
  generalize L2.upd H1 l (.lst ((L.set i y).map V.str))=H2 at k2 g2 ⊢
  walk_at "go"
  refine aUx g2 (by rw [List.length_map,List.length_set]; exact hjl) ?_
  rw [show ((L.set i y).map V.str).set j (.str x)=((L.set i y).set j x).map V.str by simp only [List.map_set]]
  have k3:Kp l H2 (L2.upd H2 l (.lst (((L.set i y).set j x).map V.str))):=Kp.upd
  have g3:=aAd (H:=H2) (a:=l) (o:=.lst (((L.set i y).set j x).map V.str))
  generalize L2.upd H2 l (.lst (((L.set i y).set j x).map V.str))=H3 at k3 g3 ⊢
  have hlen:=hsw i j x y hi hj
  have hx:x.length<=z.length:=by
   have a:=aF2 (⟨#[]⟩:Str) hi
   have:((⟨#[]⟩:Str)).length=0:=rfl
   omega
  have a1:=aF2 y hi
  have a2:(L.set i y)[j]?=some y:=by
   rw [List.getElem?_set]
   by_cases e:i=j
   ·rw [if_pos e,if_pos hil]
   ·rw [if_neg e]; exact hj
  have a3:=aF2 x a2
  have hsL:smL ((L.set i y).set j x)<=z.length:=by omega
  have hlL:((L.set i y).set j x).length=L.length:=by rw [List.length_set,List.length_set]
  have e3:sp3.length=3:=by decide +kernel
  walk_at "go"
  refine ⟨_,l,_,rfl,rfl,g3,by show smL _+_ * sp3.length<=_; rw [hlL,e3]; omega,?_⟩
  walk_at "go"
  exact q _ _ hlen fun b o h=>k3 _ _ (aAg h hl) (k2 _ _ (aAg h hl) (s1 _ _ h))
set_option maxHeartbeats 0 in
theorem aTw (T:Bl mg) (d:Df K mg "_law_drawn" aMr ["_law_text_here","_law_number_here","_law_names_here"]  ) (W:XmS mg xt x0 x1 x4 x5 x10) (R_NoText:XrS K xt x0 x1 x4 x5 x10 x5 5) (o_spoilt:Okf P w K mg base k "_law_spoilt" ["_law_words","_law_number_here","_law_names_here"] (aIw K)) (o_exchanged:Okf P w K mg base k "_law_exchanged" ["_law_text_here","_law_number_here"] aN4) (o_word:Okf P w K mg base k "_law_word" ["_law_number_here","_law_names_here"] aJi):Okf P w K mg base (k+1) "_law_drawn" ["_law_text_here","_law_number_here","_law_names_here"] (aK7 K):=by
 refine Okf.of d aDf (fun vs H Q E h=>?_) (fun f cdv A outer s H vs Q E hr h=>?_)
 ·obtain ⟨z,n,ln,U,rfl,_⟩:=h
  rfl
 ·obtain ⟨z,n,ln,U,rfl,hz,hn,hln,hUl,hU,q⟩:=h
  refine ⟨_,(@aAe _ _ _ _ _ (@aAp _ _ (i:=3) _ _ _ _ aDf.nd rfl (by first | exact Or.inl rfl | exact Or.inr rfl) (@aAj _ _ _ _ _ _ _ _ aA5 (pv 1) (@aAb _ _ _ _)) (by rfl) (by first | exact .inl rfl | exact .inr rfl | assumption)) (@aAe _ _ _ _ _ (@aAp _ _ (i:=1) _ _ _ _ aDf.nd rfl (by first | exact Or.inl rfl | exact Or.inr rfl) (@aAj _ _ _ _ _ _ _ _ aAw (pv 1) (@aAb _ _ _ _)) (by rfl) (by first | exact .inl rfl | exact .inr rfl | assumption)) (@aAe _ _ _ _ _ (@aA6 _ _ _ _ _ _ _ _ (@aAl _ _ _ _ _ _ _ _ (aA0 hr.units) (pv 3) (@aAb _ _ _ _) (aAo _)) (@aAe _ _ _ _ _ (@aAp _ _ (i:=4) _ _ _ _ aDf.nd rfl (by first | exact Or.inl rfl | exact Or.inr rfl) (@aA4 _ _ _ _ (@aAc _)) (by rfl) (by first | exact .inl rfl | exact .inr rfl | assumption)) (@aAe _ _ _ _ _ (@aDq _ _ _ _ _ _ _ _ PassesOwn.never rfl (@aDr _ _ _ _ _ _ rfl T.z_range (@aAa _ _ _ _ _ (@aAj _ _ _ _ _ _ _ _ aA5 (pv 1) (@aAb _ _ _ _)) (@aAc _) (by rfl)) (by rfl)) (@aAx _ _ (i:=5) _ aDf.nd rfl (by first | exact Or.inl rfl | exact Or.inr rfl) (by first | exact .inl rfl | exact .inr rfl | assumption)) (@aAe _ _ _ _ _ (@aBh _ _ _ _ (@aB4 _ _ _ _ _ _ _ _ _ _ _ _ PySem.F.plainAttrs_list PySem.F.slot_list_append PySem.F.type_list_append aBm (pv 4) (@aAa _ _ _ _ _ (@aAn _ _ _ _ _ _ _ _ _ _ o_word hr rfl (@aAa _ _ _ _ _ (@aAj _ _ _ _ _ _ _ _ aAw (pv 1) (@aAb _ _ _ _)) (@aAa _ _ _ _ _ (pv 2) (@aAc _) (by rfl)) (by rfl)) (by decide) (by rfl) (by rfl)) (@aAc _) (by rfl)) (by rfl) (by rfl) (by rfl) (by rfl) (by rfl)) (by rfl)) (@aAf _ _ _ (@aAp _ _ (i:=1) _ _ _ _ aDf.nd rfl (by first | exact Or.inl rfl | exact Or.inr rfl) (@aAj _ _ _ _ _ _ _ _ aCm (@aAj _ _ _ _ _ _ _ _ aAw (@aAj _ _ _ _ _ _ _ _ aAw (pv 1) (@aAb _ _ _ _)) (@aAb _ _ _ _)) (@aAb _ _ _ _)) (by rfl) (by first | exact .inl rfl | exact .inr rfl | assumption)))) (by intro _; rfl)) (@aAf _ _ _ (@aAq _ _ _ _ (@aB4 _ _ _ _ _ _ _ _ _ _ _ _ PySem.F.plainAttrs_str PySem.F.slot_str_join PySem.F.type_str_join aE8 (@aAi _ _ _ _) (@aAa _ _ _ _ _ (pv 4) (@aAc _) (by rfl)) (by rfl) (by rfl) (by rfl) (by rfl) (by rfl)))))) (@aAu _)) (@aAe _ _ _ _ _ (@aA6 _ _ _ _ _ _ _ _ (@aAl _ _ _ _ _ _ _ _ (aA0 hr.units) (pv 3) (@aAb _ _ _ _) (aAo _)) (@aAf _ _ _ (@aAq _ _ _ _ (@aAn _ _ _ _ _ _ _ _ _ _ o_exchanged hr rfl (@aAa _ _ _ _ _ (pv 0) (@aAa _ _ _ _ _ (pv 1) (@aAc _) (by rfl)) (by rfl)) (by decide) (by rfl) (by rfl)))) (@aAu _)) (@aAe _ _ _ _ _ (@aAp _ _ (i:=6) _ _ _ _ aDf.nd rfl (by first | exact Or.inl rfl | exact Or.inr rfl) (@aAn _ _ _ _ _ _ _ _ _ _ o_spoilt hr rfl (@aAa _ _ _ _ _ (@aB4 _ _ _ _ _ _ _ _ _ _ _ _ PySem.F.plainAttrs_str PySem.F.slot_str_split PySem.F.type_str_split aCu (pv 0) (@aAa _ _ _ _ _ (@aAi _ _ _ _) (@aAc _) (by rfl)) (by rfl) (by rfl) (by rfl) (by rfl) (by rfl)) (@aAa _ _ _ _ _ (pv 1) (@aAa _ _ _ _ _ (pv 2) (@aAc _) (by rfl)) (by rfl)) (by rfl)) (by decide) (by rfl) (by rfl)) (by rfl) (by first | exact .inl rfl | exact .inr rfl | assumption)) (@aAe _ _ _ _ _ (@aA6 _ _ _ _ _ _ _ _ (@aAl _ _ _ _ _ _ _ _ (aA0 hr.units) (pv 3) (@aAb _ _ _ _) (aAo _)) (@aAf _ _ _ (@aAp _ _ (i:=6) _ _ _ _ aDf.nd rfl (by first | exact Or.inl rfl | exact Or.inr rfl) (@aAn _ _ _ _ _ _ _ _ _ _ o_spoilt hr rfl (@aAa _ _ _ _ _ (pv 6) (@aAa _ _ _ _ _ (@aAj _ _ _ _ _ _ _ _ aAw (pv 1) (@aAb _ _ _ _)) (@aAa _ _ _ _ _ (pv 2) (@aAc _) (by rfl)) (by rfl)) (by rfl)) (by decide) (by rfl) (by rfl)) (by rfl) (by first | exact .inl rfl | exact .inr rfl | assumption))) (@aAu _)) (@aAf _ _ _ (@aAq _ _ _ _ (@aB4 _ _ _ _ _ _ _ _ _ _ _ _ PySem.F.plainAttrs_str PySem.F.slot_str_join PySem.F.type_str_join aE8 (@aAi _ _ _ _) (@aAa _ _ _ _ _ (pv 6) (@aAc _) (by rfl)) (by rfl) (by rfl) (by rfl) (by rfl) (by rfl)))))))))),?_⟩
  have hn4:0<=n.fdiv 4:=Int.fdiv_nonneg hn (by decide)
  have jn:∀ (ws:List Str) (b:Nat),wt ws<=b->(Str.join sp1 ws).length<=b:=fun ws b h=>Nat.le_trans (aXe ws) h
  have e1:sp1.length=1:=by decide +kernel
  have jb:∀ (ws:List Str),wt ws<=190000->(ws.map (·.length)).sum+ws.length * sp1.length<=16777216:=fun ws h=>by
   rw [e1,Nat.mul_one]
   exact Nat.le_trans h (by decide)
  walk_at "go"
  generalize n.fdiv 4=m at hn4 ⊢
  refine i_d (fun c1=>?_) (fun c1=>?_)
  ·walk_at "go"
   refine aA2 fun l hl=>?_
   have s1:=aAm.new (o:=.lst []) hl
   have g1:=aAd (H:=H) (a:=l) (o:=.lst [])
   generalize L2.upd H l (.lst [])=H1 at s1 g1 ⊢
   walk_at "go"
   have hm0:=Int.emod_nonneg m (show (10:Int)≠0 by decide)
   have hm1:=Int.emod_lt_of_pos m (show (0:Int) < 10 by decide)
   refine aEd (by omega) (by omega) ?_
   refine aQx (n:=(m % 10).toNat) (fun i σ G=>∃ (m':Int) (o5:Option V) (ws:List Str) (o7:Option V),σ=[some (.str z),some (.int m'),some (.ref ln),some (.int (n % 4)),some (.ref l),o5,o7]/\0<=m'/\Kp l H1 G/\G l=some (.lst (ws.map V.str))/\wt ws<=i * 31) ⟨m,_,[],_,rfl,hn4,Kp.refl _ _,g1,Nat.le_refl _⟩ ?_ ?_
   ·rintro NX BK hNX i σ G hi ⟨m',o5,ws,o7,rfl,hm',kp,gG,hw⟩
    have nl:ln≠l:=aAg hln hl
    have hwl:=aG8 ws
    walk_at "go"
    refine ⟨_,ln,U,rfl,Int.fdiv_nonneg hm' (by decide),kp _ _ nl (s1 _ _ hln),hUl,hU,fun w G1 hw30 t1=>?_⟩
    walk_at "go"
    refine aOh (t1 _ _ gG) (by rw [List.length_map]; omega) ?_
    have k2:Kp l G1 (L2.upd G1 l (.lst (ws.map V.str++[.str w]))):=Kp.upd
    walk_at "go"
    refine hNX _ _ _ ⟨_,_,ws++[w],_,rfl,Int.mul_nonneg (Int.fdiv_nonneg (Int.fdiv_nonneg hm' (by decide)) (by decide)) (by decide),(kp.trans t1.kp).trans k2,by rw [aAd,List.map_append]; rfl,?_⟩
    rw [aGf,aBd,aIr]
    omega
   rintro σ G ⟨m',o5,ws,o7,rfl,hm',kp,gG,hw⟩
   have hw3:wt ws<=310:=by omega
   walk_at "go"
   refine ⟨_,l,ws,rfl,rfl,gG,jb _ (by omega),?_⟩
   walk_at "go"
   exact q _ _ (jn _ _ (by omega)) fun b o h=>kp _ _ (aAg h hl) (s1 _ _ h)
  walk_at "go"
  refine i_d (fun c2=>?_) (fun c2=>?_)
  ·walk_at "go"
   refine ⟨z,m,rfl,by omega,hn4,fun z' H1 hz' s1=>?_⟩
   walk_at "go"
   exact q z' H1 (by omega) s1
  walk_at "go"
  refine aDk (z:=z) (y:=sp1) (by decide +kernel) (by omega) fun l hl=>?_
  have hwt:=aJh z
  generalize Txt.split z sp1=ws at hwt ⊢
  have s1:=aAm.new (o:=.lst (ws.map V.str)) hl
  have g1:=aAd (H:=H) (a:=l) (o:=.lst (ws.map V.str))
  generalize L2.upd H l (.lst (ws.map V.str))=H1 at s1 g1 ⊢
  walk_at "go"
  refine ⟨l,ws,m,ln,U,rfl,g1,by omega,hn4,s1 _ _ hln,hUl,hU,fun l2 ws2 H2 h2 s2 g2=>?_⟩
  walk_at "go"
  refine i_d (fun c3=>?_) (fun c3=>?_)
  ·walk_at "go"
   refine ⟨l2,ws2,_,ln,U,rfl,g2,by omega,Int.fdiv_nonneg hn4 (by decide),s2 _ _ (s1 _ _ hln),hUl,hU,fun l3 ws3 H3 h3 s3 g3=>?_⟩
   walk_at "go"
   refine ⟨_,l3,ws3,rfl,rfl,g3,jb _ (by omega),?_⟩
   walk_at "go"
   exact q _ _ (jn _ _ (by omega)) ((s1.trans s2).trans s3)
  ·walk_at "go"
   refine ⟨_,l2,ws2,rfl,rfl,g2,jb _ (by omega),?_⟩
   walk_at "go"
   exact q _ _ (jn _ _ (by omega)) (s1.trans s2)
set_option maxHeartbeats 0 in
theorem aPh (T:Bl mg) (d:Df K mg "_law_refused" aHo ["_law_text_here"]  ) (W:XmS mg xt x0 x1 x4 x5 x10) (R_NoText:XrS K xt x0 x1 x4 x5 x10 x5 5) (o_read_rows:aC0 P w K mg base k "read_rows" ["text"] [] (aDe K x5)):Okf P w K mg base (k+1) "_law_refused" ["_law_text_here"] (aE0 K):=by
 refine Okf.of d aEr (fun vs H Q E h=>?_) (fun f cdv A outer s H vs Q E hr h=>?_)
 ·obtain ⟨x,rfl,_⟩:=h
  rfl
 ·obtain ⟨x,rfl,h,q⟩:=h
  refine ⟨_,(@aAe _ _ _ _ _ (@aAp _ _ (i:=1) _ _ _ _ aEr.nd rfl (by first | exact Or.inl rfl | exact Or.inr rfl) (@aBj _ _ _) (by rfl) (by first | exact .inl rfl | exact .inr rfl | assumption)) (@aAe _ _ _ _ _ (@bAs _ _ _ _ (i:=2) _ _ _ _ _ _ _ _ rfl rfl rfl rfl W.t aEr.nd rfl rfl (@aWk _ _ _ _ (@aTm _ _ _ _ _ _ _ _ _ _ _ o_read_rows rfl (fun _ _ z=>z) hr rfl (@aAa _ _ _ _ _ (pv 0) (@aAc _) (by rfl)) (by decide) (by rfl) (by rfl)) (by rfl)) (fun y=>(@aAf _ _ _ (@aAp _ _ (i:=1) _ _ _ _ aEr.nd rfl (by first | exact Or.inl rfl | exact Or.inr rfl) (pv 2) (by rfl) (by first | exact .inl rfl | exact .inr rfl | assumption)))) (by decide)) (@aAe _ _ _ _ _ (@aA6 _ _ _ _ _ _ _ _ (@PW.pt _ _ _ (@aHs _ _ _ _ _ _ _ (@aC7 _ _ _ _ (@aCq _ _ _ (@aAk _ _ _ _ _ _ _ _ _ aOz rfl T.z_isinstance aBs (@aAa _ _ _ _ _ (pv 1) (@aAa _ _ _ _ _ (@aCe _ _ (v:=.ref x5) _ _ rfl W.m_NoText rfl (by decide)) (@aAc _) (by rfl)) (by rfl)) (by decide) (by decide) (by rfl) (by rfl)) (by intro _; rfl))) (@aGj _ _ _ _ (@aC7 _ _ _ _ (@aCq _ _ _ (@aAk _ _ _ _ _ _ _ _ _ aOz rfl T.z_isinstance aBs (@aAa _ _ _ _ _ (pv 1) (@aAa _ _ _ _ _ (@aF5 _ _ (v:=.ty "ValueError") _ _ rfl W.zV aKr rfl (by decide) (by decide)) (@aAc _) (by rfl)) (by rfl)) (by decide) (by decide) (by rfl) (by rfl)) (by intro _; rfl)))))) (@aAf _ _ _ (@aAq _ _ _ _ (@aJ7 _ _ _ _))) (@aAu _)) (@aAf _ _ _ (@aAq _ _ _ _ (@aU8 _ _ _ _ (@aAk _ _ _ _ _ _ _ _ _ aSq rfl T.z_isinstance aBs (@aAa _ _ _ _ _ (pv 1) (@aAa _ _ _ _ _ (@aBy _ _ _ _ _ (@aAa _ _ _ _ _ (@aCe _ _ (v:=.ref x1) _ _ rfl W.m_NoNet rfl (by decide)) (@aAa _ _ _ _ _ (@aCe _ _ (v:=.ref x0) _ _ rfl W.m_NoNumber rfl (by decide)) (@aAa _ _ _ _ _ (@aCe _ _ (v:=.ref x10) _ _ rfl W.m_NoRow rfl (by decide)) (@aAa _ _ _ _ _ (@aCe _ _ (v:=.ref x4) _ _ rfl W.m_TooMany rfl (by decide)) (@aAc _) (by rfl)) (by rfl)) (by rfl)) (by rfl))) (@aAc _) (by rfl)) (by rfl)) (by decide) (by decide) (by rfl) (by rfl)))))))),?_⟩
  walk_at "go"
  refine rr_no h fun H1 s1=>?_
  refine aY4 R_NoText.t fun y hy=>?_
  have t1:=s1.trans (aAm.new (o:=aSb y x5) hy)
  have y1:=aAd (H:=H1) (a:=y) (o:=aSb y x5)
  generalize L2.upd H1 y (aSb y x5)=H2 at t1 y1 ⊢
  walk_at "go"
  refine aZt y1 R_NoText.x R_NoText.k5 ?_
  rw [show Nat.beq 5 5=true from rfl]
  walk_at "go"
  refine aZs y1 R_NoText.x R_NoText.v ?_
  walk_at "go"
  refine aBr fun p hp=>?_
  have t2:=aAm.new (o:=.tup [.ref x1,.ref x0,.ref x10,.ref x4]) hp
  have g2:=aAd (H:=H2) (a:=p) (o:=.tup [.ref x1,.ref x0,.ref x10,.ref x4])
  generalize L2.upd H2 p (.tup [.ref x1,.ref x0,.ref x10,.ref x4])=H3 at t2 g2 ⊢
  refine ⟨y,x5,p,[x1,x0,x10,x4],rfl,t2 _ _ y1,R_NoText.x,g2,fun c hc=>?_,?_⟩
  ·simp only [List.mem_cons,List.not_mem_nil,or_false] at hc
   rcases hc with rfl | rfl | rfl | rfl
   ·exact R_NoText.k1
   ·exact R_NoText.k0
   ·exact R_NoText.k10
   ·exact R_NoText.k4
  walk_at "go"
  exact q _ (t1.trans t2)
set_option maxHeartbeats 0 in
theorem aTs (T:Bl mg) (d:Df K mg "_law_right" aMo ["_law_text_here"]  ) (W:XmS mg xt x0 x1 x4 x5 x10) (R_NoText:XrS K xt x0 x1 x4 x5 x10 x5 5) (o_read_rows:aC0 P w K mg base k "read_rows" ["text"] [] (aDe K x5)) (o_refused:Okf P w K mg base k "_law_refused" ["_law_text_here"] (aE0 K)) (o_read:Okf P w K mg base k "_law_read" ["_law_text_here"] (aNz K)):Okf P w K mg base (k+1) "_law_right" ["_law_text_here"] (aK2 K):=by
 refine Okf.of d aN8 (fun vs H Q E h=>?_) (fun f cdv A outer s H vs Q E hr h=>?_)
 ·obtain ⟨z,rfl,_⟩:=h
  rfl
 ·obtain ⟨z,rfl,hz,q⟩:=h
  refine ⟨_,(@aAe _ _ _ _ _ (@aAp _ _ (i:=1) _ _ _ _ aN8.nd rfl (by first | exact Or.inl rfl | exact Or.inr rfl) (@aAn _ _ _ _ _ _ _ _ _ _ o_read hr rfl (@aAa _ _ _ _ _ (pv 0) (@aAc _) (by rfl)) (by decide) (by rfl) (by rfl)) (by rfl) (by first | exact .inl rfl | exact .inr rfl | assumption)) (@aAe _ _ _ _ _ (@aA6 _ _ _ _ _ _ _ _ (@aAl _ _ _ _ _ _ _ _ aHw (pv 1) (@aBj _ _ _) (aAo _)) (@aAf _ _ _ (@aAq _ _ _ _ (@aAn _ _ _ _ _ _ _ _ _ _ o_refused hr rfl (@aAa _ _ _ _ _ (pv 0) (@aAc _) (by rfl)) (by decide) (by rfl) (by rfl)))) (@aAu _)) (@aAf _ _ _ (@aAq _ _ _ _ (@aB3 _ _ _ _ _ _ _ _ (aA0 hr.units) (@aA9 _ _ _ _ _ _ _ _ _ _ _ _ o_read_rows hr rfl passN (@aAa _ _ _ _ _ (pv 0) (@aAc _) (by rfl)) (by decide) (by rfl) (by rfl)) (pv 1) (aAo _)))))),?_⟩
  walk_at "go"
  refine ⟨z,rfl,hz,fun gs l H1 er s1 gq=>?_,fun er H1 s1=>?_⟩
  ·walk_at "go"
   refine ⟨_,rfl,.inl ⟨z,rfl,hz,fun gs' l' H2 er' hl' s2 gq'=>?_,fun en=>by rw [er] at en; cases en⟩⟩
   rw [er] at er'
   cases er'
   walk_at "go"
   refine e_gs gq' (gq.sm s2) ?_
   walk_at "go"
   exact q _ (s1.trans s2)
  ·walk_at "go"
   refine ⟨_,rfl,.inl ⟨z,rfl,hz,er⟩,fun H2 s2=>?_⟩
   walk_at "go"
   exact q _ (s1.trans s2)
set_option maxHeartbeats 0 in
theorem bBd {f:Addr} {fd:FuncData} (T:Bl mg) (F:Fun K "law" "law" aJy f fd) (W:XmS mg xt x0 x1 x4 x5 x10) (R_NoText:XrS K xt x0 x1 x4 x5 x10 x5 5) (o_right:Okf P w K mg base k "_law_right" ["_law_text_here"] (aK2 K)) (o_refused:Okf P w K mg base k "_law_refused" ["_law_text_here"] (aE0 K)) (o_number:Okf P w K mg base k "_law_number" ["_law_script","_law_k"] (aN2 K)) (o_drawn:Okf P w K mg base k "_law_drawn" ["_law_text_here","_law_number_here","_law_names_here"] (aK7 K)) (o_built:Okf P w K mg base k "_law_built" ["_law_script","_law_first","_law_end"] (aQj K)) (o_text:Okf P w K mg base k "_law_text" ["_law_rows"] (aNx K)) (o_names:Okf P w K mg base k "_law_names" ["_law_script"] (aHd K)):aNp P w K mg base CX0 (k+1) f fd ["_law_script"] (aS7 K):=by
 refine F.ok aHm (fun vs H Q E h=>?_) (fun cdv A outer s H vs Q E hr h=>?_)
 ·obtain ⟨a,ns,rfl,_⟩:=h
  rfl
 ·obtain ⟨a,ns,rfl,hS,h63,q⟩:=h
  refine ⟨_,(@aAe _ _ _ _ _ (@aAp _ _ (i:=1) _ _ _ _ aHm.nd rfl (by first | exact Or.inl rfl | exact Or.inr rfl) (@aAn _ _ _ _ _ _ _ _ _ _ o_names hr rfl (@aAa _ _ _ _ _ (pv 0) (@aAc _) (by rfl)) (by decide) (by rfl) (by rfl)) (by rfl) (by first | exact .inl rfl | exact .inr rfl | assumption)) (@aAe _ _ _ _ _ (@aAp _ _ (i:=2) _ _ _ _ aHm.nd rfl (by first | exact Or.inl rfl | exact Or.inr rfl) (@aAn _ _ _ _ _ _ _ _ _ _ o_text hr rfl (@aAa _ _ _ _ _ (@aAn _ _ _ _ _ _ _ _ _ _ o_built hr rfl (@aAa _ _ _ _ _ (pv 0) (@aAa _ _ _ _ _ (@aAb _ _ _ _) (@aAa _ _ _ _ _ (@aAk _ _ _ _ _ _ _ _ _ (bCb rfl) rfl T.z_min aVk (@aAa _ _ _ _ _ (@aAk _ _ _ _ _ _ _ _ _ aBo rfl T.z_len aAz (@aAa _ _ _ _ _ (pv 0) (@aAc _) (by rfl)) (by decide) (by decide) (by rfl) (by rfl)) (@aAa _ _ _ _ _ (@aAb _ _ _ _) (@aAc _) (by rfl)) (by rfl)) (by decide) (by decide) (by rfl) (by rfl)) (@aAc _) (by rfl)) (by rfl)) (by rfl)) (by decide) (by rfl) (by rfl)) (@aAc _) (by rfl)) (by decide) (by rfl) (by rfl)) (by rfl) (by first | exact .inl rfl | exact .inr rfl | assumption)) (@aAe _ _ _ _ _ (@aDq _ _ _ _ _ _ _ _ PassesOwn.never rfl (@aHv _ _ _ _ _ _ _ rfl T.z_range (@aAa _ _ _ _ _ (@aAb _ _ _ _) (@aAa _ _ _ _ _ (@aAk _ _ _ _ _ _ _ _ _ (bCc rfl) rfl T.z_max aVl (@aAa _ _ _ _ _ (@aAb _ _ _ _) (@aAa _ _ _ _ _ (@aAk _ _ _ _ _ _ _ _ _ (bCb rfl) rfl T.z_min aVk (@aAa _ _ _ _ _ (@aAk _ _ _ _ _ _ _ _ _ aBo rfl T.z_len aAz (@aAa _ _ _ _ _ (pv 0) (@aAc _) (by rfl)) (by decide) (by decide) (by rfl) (by rfl)) (@aAa _ _ _ _ _ (@aAb _ _ _ _) (@aAc _) (by rfl)) (by rfl)) (by decide) (by decide) (by rfl) (by rfl)) (@aAc _) (by rfl)) (by rfl)) (by decide) (by decide) (by rfl) (by rfl)) (@aAc _) (by rfl)) (by rfl)) (by rfl) (by rfl)) (@aAx _ _ (i:=3) _ aHm.nd rfl (by first | exact Or.inl rfl | exact Or.inr rfl) (by first | exact .inl rfl | exact .inr rfl | assumption)) (@aAf _ _ _ (@aA6 _ _ _ _ _ _ _ _ (@aC7 _ _ _ _ (@aCq _ _ _ (@aAn _ _ _ _ _ _ _ _ _ _ o_right hr rfl (@aAa _ _ _ _ _ (@aAn _ _ _ _ _ _ _ _ _ _ o_drawn hr rfl (@aAa _ _ _ _ _ (pv 2) (@aAa _ _ _ _ _ (@aAj _ _ _ _ _ _ _ _ aAs (@aAn _ _ _ _ _ _ _ _ _ _ o_number hr rfl (@aAa _ _ _ _ _ (pv 0) (@aAa _ _ _ _ _ (pv 3) (@aAc _) (by rfl)) (by rfl)) (by decide) (by rfl) (by rfl)) (@aAj _ _ _ _ _ _ _ _ aCm (@aAb _ _ _ _) (pv 3))) (@aAa _ _ _ _ _ (pv 1) (@aAc _) (by rfl)) (by rfl)) (by rfl)) (by decide) (by rfl) (by rfl)) (@aAc _) (by rfl)) (by decide) (by rfl) (by rfl)) (by intro _; rfl))) (@aAf _ _ _ (@aAq _ _ _ _ (@aJ7 _ _ _ _))) (@aAu _))) (by intro _; rfl)) (@aAe _ _ _ _ _ (@aDq _ _ _ _ _ _ _ _ PassesOwn.never rfl (@aCb _ _ _ _ (@aA4 _ _ _ _ (@aAa _ _ _ _ _ (@aAb _ _ _ _) (@aAa _ _ _ _ _ (@aAb _ _ _ _) (@aAa _ _ _ _ _ (@aAb _ _ _ _) (@aAc _) (by rfl)) (by rfl)) (by rfl)))) (@aAx _ _ (i:=4) _ aHm.nd rfl (by first | exact Or.inl rfl | exact Or.inr rfl) (by first | exact .inl rfl | exact .inr rfl | assumption)) (@aAe _ _ _ _ _ (@aAp _ _ (i:=5) _ _ _ _ aHm.nd rfl (by first | exact Or.inl rfl | exact Or.inr rfl) (@aAj _ _ _ _ _ _ _ _ bA6 (@aA4 _ _ _ _ (@aAa _ _ _ _ _ (@aAj _ _ _ _ _ _ _ _ aAs (@aAj _ _ _ _ _ _ _ _ aAs (@aAj _ _ _ _ _ _ _ _ aAs (@aAj _ _ _ _ _ _ _ _ aAs (@aAi _ _ _ _) (@aAr _ _ _ _ _ _ _ aAt (pv 1) (@aAb _ _ _ _) (fun _ _=>rfl))) (@aAi _ _ _ _)) (@aAr _ _ _ _ _ _ _ aAt (pv 1) (@aAb _ _ _ _) (fun _ _=>rfl))) (@aAi _ _ _ _)) (@aAc _) (by rfl))) (@aAj _ _ _ _ _ _ _ _ aI8 (pv 4) (@aAb _ _ _ _))) (by rfl) (by first | exact .inl rfl | exact .inr rfl | assumption)) (@aAf _ _ _ (@aA6 _ _ _ _ _ _ _ _ (@aC7 _ _ _ _ (@aCq _ _ _ (@aAn _ _ _ _ _ _ _ _ _ _ o_right hr rfl (@aAa _ _ _ _ _ (@aB4 _ _ _ _ _ _ _ _ _ _ _ _ PySem.F.plainAttrs_str PySem.F.slot_str_join PySem.F.type_str_join aE8 (@aAi _ _ _ _) (@aAa _ _ _ _ _ (@aAj _ _ _ _ _ _ _ _ aAs (pv 5) (@aA4 _ _ _ _ (@aAa _ _ _ _ _ (@aAj _ _ _ _ _ _ _ _ aAs (@aAj _ _ _ _ _ _ _ _ aAs (@aAj _ _ _ _ _ _ _ _ aAs (@aAi _ _ _ _) (@aAr _ _ _ _ _ _ _ aAt (pv 1) (@aAb _ _ _ _) (fun _ _=>rfl))) (@aAi _ _ _ _)) (@aAr _ _ _ _ _ _ _ aAt (pv 1) (@aAb _ _ _ _) (fun _ _=>rfl))) (@aAa _ _ _ _ _ (@aAi _ _ _ _) (@aAa _ _ _ _ _ (@aAi _ _ _ _) (@aAc _) (by rfl)) (by rfl)) (by rfl)))) (@aAc _) (by rfl)) (by rfl) (by rfl) (by rfl) (by rfl) (by rfl)) (@aAc _) (by rfl)) (by decide) (by rfl) (by rfl)) (by intro _; rfl))) (@aAf _ _ _ (@aAq _ _ _ _ (@aJ7 _ _ _ _))) (@aAu _)))) (by intro _; rfl)) (@aAe _ _ _ _ _ (@aDq _ _ _ _ _ _ _ _ PassesOwn.never rfl (@aCb _ _ _ _ (@aA4 _ _ _ _ (@aAa _ _ _ _ _ (@aBj _ _ _) (@aAa _ _ _ _ _ (@aAb _ _ _ _) (@aAa _ _ _ _ _ (@aA4 _ _ _ _ (@aAa _ _ _ _ _ (pv 2) (@aAc _) (by rfl))) (@aAa _ _ _ _ _ (@aJ7 _ _ _ _) (@aAa _ _ _ _ _ (@aBy _ _ _ _ _ (@aAa _ _ _ _ _ (@aAi _ _ _ _) (@aAc _) (by rfl))) (@aAc _) (by rfl)) (by rfl)) (by rfl)) (by rfl)) (by rfl)))) (@aAx _ _ (i:=6) _ aHm.nd rfl (by first | exact Or.inl rfl | exact Or.inr rfl) (by first | exact .inl rfl | exact .inr rfl | assumption)) (@aAf _ _ _ (@aA6 _ _ _ _ _ _ _ _ (@aC7 _ _ _ _ (@aCq _ _ _ (@aAn _ _ _ _ _ _ _ _ _ _ o_refused hr rfl (@aAa _ _ _ _ _ (pv 6) (@aAc _) (by rfl)) (by decide) (by rfl) (by rfl)) (by intro _; rfl))) (@aAf _ _ _ (@aAq _ _ _ _ (@aJ7 _ _ _ _))) (@aAu _))) (by intro _; rfl)) (@aAf _ _ _ (@aAq _ _ _ _ (@aAn _ _ _ _ _ _ _ _ _ _ o_right hr rfl (@aAa _ _ _ _ _ (pv 2) (@aAc _) (by rfl)) (by decide) (by rfl) (by rfl))))))))),?_⟩
  walk_at "go"
  refine ⟨a,ns,rfl,hS,fun ln H1 U hln0 s1 hln hU8 hUp hUn=>?_⟩
  have hS1:=s1.seq hS
  walk_at "go"
  refine aOf hS1 ?_
  walk_at "go"
  rw [List.length_map]
  obtain ⟨m,hm,em⟩:∃ m:Nat,m<=14/\(if (14:Int) < (ns.length:Int) then (14:Int) else (ns.length:Int))=(m:Int):=by
   by_cases h:(14:Int) < (ns.length:Int)
   ·exact ⟨14,by decide,by rw [if_pos h]; rfl⟩
   ·exact ⟨ns.length,by omega,by rw [if_neg h]⟩
  rw [em]
  clear em
  refine ⟨a,ns,m,rfl,hS1,h63,by omega,fun lr G gs sG _ hgs hb hne hlN=>?_⟩
  have hcap:=aS3 hb
  walk_at "go"
  refine ⟨lr,gs,rfl,hgs,hb,by omega,fun H2 s2=>?_⟩
  replace hcap:(aP7 (gs.flatMap aBu)).length<=170000:=by omega
  generalize aP7 (gs.flatMap aBu)=z at hcap ⊢
  replace s2:=sG.trans s2
  replace hln:=s2 _ _ hln
  replace hS1:=s2.seq hS1
  clear hgs sG
  have hS2:=hS1
  walk_at "go"
  refine aOf hS1 ?_
  walk_at "go"
  rw [List.length_map]
  obtain ⟨e,he,ee⟩:∃ e:Int,(15<=e/\e<=30)/\(if (if (30:Int) < (ns.length:Int) then (30:Int) else (ns.length:Int)) > 15 then (if (30:Int) < (ns.length:Int) then (30:Int) else (ns.length:Int)) else 15)=e:=⟨_,by split <;> split <;> omega,rfl⟩
  rw [ee]
  clear ee
  refine aMu (by omega) (by omega) (by omega) (by omega) ?_
  refine aQx (n:=(e - 14).toNat) (fun i σ G=>∃ o3 o4 o5 o6:Option V,σ=[some (.ref a),some (.ref ln),some (.str z),o3,o4,o5,o6]/\aAm H2 G) ⟨_,_,_,_,rfl,aAm.refl _⟩ ?_ ?_
  ·rintro NX BK hNX i σ G hi ⟨o3,o4,o5,o6,rfl,sG⟩
   walk_at "go"
   refine ⟨a,ns,_,rfl,sG.seq hS1,by omega,by omega,fun r hr=>?_⟩
   walk_at "go"
   refine ⟨z,_,ln,U,rfl,hcap,by omega,sG _ _ hln,hU8,hUp,fun z' G1 hz' t1=>?_⟩
   walk_at "go"
   refine ⟨z',rfl,hz',fun G2 t2=>?_⟩
   walk_at "go"
   exact hNX _ _ _ ⟨_,_,_,_,rfl,(sG.trans t1).trans t2⟩
  rintro σ H3 ⟨o3,o4,o5,o6,rfl,s3⟩
  replace hln:=s3 _ _ hln
  walk_at "go"
  refine aA2 fun l9 hl9=>?_
  have s9:=aAm.new (o:=.lst [.int 59,.int 60,.int 61]) hl9
  have g9:=aAd (H:=H3) (a:=l9) (o:=.lst [.int 59,.int 60,.int 61])
  generalize L2.upd H3 l9 (.lst [.int 59,.int 60,.int 61])=H4 at s9 g9 ⊢
  replace hln:=s9 _ _ hln
  refine aCa (SqL.of g9) ?_
  obtain ⟨n0,hn0,e0⟩:=aEf (nm:=U) (i:=0) (by decide) (by omega)
  obtain ⟨n1,hn1,e1⟩:=aEf (nm:=U) (i:=1) (by decide) (by omega)
  obtain ⟨n2,hn2,e2⟩:=aEf (nm:=U) (i:=2) (by decide) (by omega)
  obtain ⟨n3,hn3,e3⟩:=aEf (nm:=U) (i:=3) (by decide) (by omega)
  have l0:=aFm (hUp _ hn0)
  have l1:=aFm (hUp _ hn1)
  have l2:=aFm (hUp _ hn2)
  have l3:=aFm (hUp _ hn3)
  have c1:("run ":Str).length=4:=by decide +kernel
  have c2:(" ":Str).length=1:=by decide +kernel
  have c3:(" 1":Str).length=2:=by decide +kernel
  have c4:("piece ":Str).length=6:=by decide +kernel
  have c5:("run a b 1/2":Str).length=11:=by decide +kernel
  have c6:("end":Str).length=3:=by decide +kernel
  have c7:sp3.length=3:=by decide +kernel
  refine aMw (xs:=[.int 59,.int 60,.int 61]) (fun i σ G=>∃ o3 o4 o5 o6:Option V,σ=[some (.ref a),some (.ref ln),some (.str z),o3,o4,o5,o6]/\aAm H4 G) ⟨_,_,_,_,rfl,aAm.refl _⟩ ?_ ?_ ?_
  ·rintro i σ G hi ⟨o3,o4,o5,o6,rfl,sG⟩
   exact SqL.of (sG _ _ g9)
  ·rintro NX BK hNX i x σ G hx ⟨o3,o4,o5,o6,rfl,sG⟩
   obtain ⟨c,hc,rfl⟩:∃ c:Int,(59<=c/\c<=61)/\x=.int c:=by
    have:=List.mem_of_getElem? hx
    simp only [List.mem_cons,List.not_mem_nil,or_false] at this
    rcases this with rfl | rfl | rfl
    ·exact ⟨59,by decide,rfl⟩
    ·exact ⟨60,by decide,rfl⟩
    ·exact ⟨61,by decide,rfl⟩
   have hlnG:=sG _ _ hln
   walk_at "go"
   refine aBa hlnG e0 ?_
   walk_at "go"
   refine aXz (by omega) fun y1 h1=>?_
   walk_at "go"
   refine aXz (by omega) fun y2 h2=>?_
   walk_at "go"
   refine aBa hlnG e1 ?_
   walk_at "go"
   refine aXz (by omega) fun y3 h3=>?_
   walk_at "go"
   refine aXz (by omega) fun y4 h4=>?_
   walk_at "go"
   refine aOe fun p1 G1 t1 g1=>?_
   walk_at "go"
   refine aY9 g1 (by omega) (by omega) fun p2 G2 t2 g2=>?_
   have t12:=t1.trans t2
   have hl2:=t12 _ _ hlnG
   have hrl:(List.replicate (c - 3).toNat y4).length<=58:=by rw [List.length_replicate]; omega
   have hrm:∀ w∈List.replicate (c - 3).toNat y4,w.length<=30:=fun w hw=>by rw [List.eq_of_mem_replicate hw]; omega
   generalize List.replicate (c - 3).toNat y4=rws at g2 hrl hrm
   walk_at "go"
   refine aBa hl2 e2 ?_
   walk_at "go"
   refine aXz (by omega) fun y5 h5=>?_
   walk_at "go"
   refine aXz (by omega) fun y6 h6=>?_
   walk_at "go"
   refine aBa hl2 e3 ?_
   walk_at "go"
   refine aXz (by omega) fun y7 h7=>?_
   walk_at "go"
   refine aZk fun p3 G3 t3 g3=>?_
   refine aPu (t3 _ _ g2) g3 (by show _+3<=_; omega) fun p4 G4 t4 g4=>?_
   have hL:(rws++[y7,("run a b 1/2":Str),("end":Str)]).length<=61:=by rw [List.length_append]; show _+3<=_; omega
   have hM:=aF0 (ys:=rws++[y7,("run a b 1/2":Str),("end":Str)]) (B:=30) fun w hw=>by
    rcases List.mem_append.mp hw with h | h
    ·exact hrm w h
    ·simp only [List.mem_cons,List.not_mem_nil,or_false] at h
     rcases h with rfl | rfl | rfl <;> omega
   have hJ:=StrLaws.join_length_le sp3 (rws++[y7,("run a b 1/2":Str),("end":Str)])
   rw [c7] at hJ
   generalize rws++[y7,("run a b 1/2":Str),("end":Str)]=wsF at g4 hL hM hJ
   walk_at "go"
   refine ⟨_,p4,wsF,rfl,rfl,g4,by show _+_ * sp3.length<=_; rw [c7]; omega,?_⟩
   walk_at "go"
   refine ⟨_,rfl,show (Str.join sp3 wsF).length<=_ by omega,fun G5 t5=>?_⟩
   walk_at "go"
   exact hNX _ _ _ ⟨_,_,_,_,rfl,(((sG.trans t12).trans t3).trans t4).trans t5⟩
  rintro σ H5 ⟨o3,o4,o5,o6,rfl,s5⟩
  walk_at "go"
  refine aOe fun p1 G1 t1 g1=>?_
  walk_at "go"
  refine aBr fun p2 hp2=>?_
  have t2:=aAm.new (o:=.tup [.str "run a b 1"]) hp2
  have g2:=aAd (H:=G1) (a:=p2) (o:=.tup [.str "run a b 1"])
  generalize L2.upd G1 p2 (.tup [.str "run a b 1"])=G2 at t2 g2 ⊢
  walk_at "go"
  refine aA2 fun p3 hp3=>?_
  have t3:=aAm.new (o:=.lst [.non,.int 5,.ref p1,.bl true,.ref p2]) hp3
  have g3:=aAd (H:=G2) (a:=p3) (o:=.lst [.non,.int 5,.ref p1,.bl true,.ref p2])
  generalize L2.upd G2 p3 (.lst [.non,.int 5,.ref p1,.bl true,.ref p2])=G3 at t3 g3 ⊢
  have hN:∀ x∈[V.non,.int 5,.ref p1,.bl true,.ref p2],NS K G3 x:=fun x hx=>by
   simp only [List.mem_cons,List.not_mem_nil,or_false] at hx
   rcases hx with rfl | rfl | rfl | rfl | rfl
   ·exact NS.non
   ·exact NS.int 5
   ·exact NS.lst (t3 _ _ (t2 _ _ g1))
   ·exact NS.bl true
   ·exact NS.tup (t3 _ _ g2)
  refine aCa (SqL.of g3) ?_
  refine aMw (xs:=[.non,.int 5,.ref p1,.bl true,.ref p2]) (fun i σ G=>∃ o3 o4 o5 o6:Option V,σ=[some (.ref a),some (.ref ln),some (.str z),o3,o4,o5,o6]/\aAm G3 G) ⟨_,_,_,_,rfl,aAm.refl _⟩ ?_ ?_ ?_
  ·rintro i σ G hi ⟨o3,o4,o5,o6,rfl,sG⟩
   exact SqL.of (sG _ _ g3)
  ·rintro NX BK hNX i x σ G hx ⟨o3,o4,o5,o6,rfl,sG⟩
   have hx':=hN x (List.mem_of_getElem? hx)
   walk_at "go"
   refine ⟨x,rfl,.inr (hx'.sm sG),fun G4 t4=>?_⟩
   walk_at "go"
   exact hNX _ _ _ ⟨_,_,_,_,rfl,sG.trans t4⟩
  rintro σ G ⟨o3,o4,o5,o6,rfl,sG⟩
  walk_at "go"
  refine ⟨z,rfl,by omega,fun G4 t4=>?_⟩
  walk_at "go"
  exact q _
end
structure DA (K:PySem.W.Frag) (n:Str) (s:Stmt):Prop where
 ex:∃ (f:Addr) (oc:Value) (od an:Option Addr) (sl:Array (Option Value)) (kV dc pm cd ct:Value),PySem.W.nsIn K mainGlobals n=some (some (.ref f))/\K.lookup f=some ⟨oc,od,.func (PySem.W.fnOf n n (aDa s) (aCn s) (aAh s) .none kV dc pm an cd ct),sl⟩/\PySem.W.codeIn K cd n=true/\PySem.W.keepIn K (.ref f)=true
theorem DA.of {K:PySem.W.Frag} {n:Str} {s:Stmt} {f:Addr} {oc:Value} {od an:Option Addr} {sl:Array (Option Value)} {kV dc pm cd ct:Value} (a:PySem.W.nsIn K mainGlobals n=some (some (.ref f))) (l:K.lookup f=some ⟨oc,od,.func (PySem.W.fnOf n n (aDa s) (aCn s) (aAh s) .none kV dc pm an cd ct),sl⟩) (c:PySem.W.codeIn K cd n=true) (k:PySem.W.keepIn K (.ref f)=true):DA K n s:=⟨_,_,_,_,_,_,_,_,_,_,a,l,c,k⟩
theorem DA.df {K:PySem.W.Frag} {mg:Str->Option Value} {h:Heap} {x:Str} {st:Stmt} {ps:List Str} (d:DA K x st) (X:K.In h) (G:h.Ns mainGlobals mg)
 (b:∀ (kV doc pm:Value) (an:Option Addr) (cdv ct:Value) (us:List Value),us.length=ps.length->bindArgs (PySem.W.fnOf x x (aDa st) (aCn st) (aAh st) .none kV doc pm an cdv ct) ⟨us,[]⟩=pure (ps.zip us)):Df K mg x st ps:=by
 obtain ⟨f,oc,od,an,sl,kV,dc,pm,cd,ct,a,l,c,k⟩:=d.ex
 exact df_mk X G a l c k (b _ _ _ _ _ _)
set_option maxHeartbeats 0 in
theorem all_mk {l:PySem.W.OpenLaw} {w:World} {K:PySem.W.Frag} {h:Heap} {mg:Str->Option Value} {fa:Addr} (X:K.In h) (G:h.Ns mainGlobals mg) (hfa:mg "law"=some (.ref fa)) {f46:Addr} {oc46:Value} {od46 an46:Option Addr} {sl46:Array (Option Value)} {kV46 dc46 pm46 cd46 ct46:Value} {xt x0 x1 x4 x5 x10:Addr} {cd_NoText:ClassData} {tk_FIGURES:Tok} {tk_MOST_FIGURES:Tok} {tk_LETTERS:Tok} {tk_MOST_LETTERS:Tok} {tk_MOST_PARTS:Tok} {tk_MOST_PARAMS:Tok} {tk_MOST_ROWS:Tok} {ad_FEWEST_POSTS:Addr} {ep_FEWEST_POSTS:Nat} {h0_FEWEST_POSTS:Int} {t0_FEWEST_POSTS u0_FEWEST_POSTS:Tok} {h1_FEWEST_POSTS:Int} {t1_FEWEST_POSTS u1_FEWEST_POSTS:Tok} {h2_FEWEST_POSTS:Int} {t2_FEWEST_POSTS u2_FEWEST_POSTS:Tok}
  (a0:DA K "is_whole" aF3)
  (a1:DA K "common_divisor" aCz)
  (a2:DA K "is_fraction" aD1)
  (a3:DA K "is_written" aDg)
  (a4:DA K "read_time" aDz)
  (a5:DA K "is_part" aFh)
  (a6:DA K "is_post" aFg)
  (a7:DA K "refuse_unless" aC6)
  (a8:DA K "posts_in" aEs)
  (a9:DA K "time_in" aHn)
  (a10:DA K "run_in" aJt)
  (a11:DA K "posts_row_in" aDh)
  (a12:DA K "put_in" aJu)
  (a13:DA K "plain_row_in" aDi)
  (a14:DA K "piece_in" aDp)
  (a15:DA K "end_behind" aEc)
  (a16:DA K "lines_in" aEt)
  (a17:DA K "read_rows" aE3)
  (a18:DA K "_law_cell_at" aHr)
  (a19:DA K "_law_number" aJv)
  (a20:DA K "_law_lowest" aJx)
  (a21:DA K "_law_names" aJw)
  (a22:DA K "_law_post" aOa)
  (a23:DA K "_law_time" aQq)
  (a24:DA K "_law_posts" aMp)
  (a25:DA K "_law_plain" aMq)
  (a26:DA K "_law_row" aV0)
  (a27:DA K "_law_closed" aJz)
  (a28:DA K "_law_time_text" aE2)
  (a29:DA K "_law_row_texts" aDy)
  (a30:DA K "_law_next" aLe)
  (a31:DA K "_law_built" aMs)
  (a32:DA K "_law_text" aQr)
  (a33:DA K "_law_is_name" aHp)
  (a34:DA K "_law_is_post" aD0)
  (a35:DA K "_law_figures" aHq)
  (a36:DA K "_law_time_of" aFf)
  (a37:DA K "_law_plain_of" aDo)
  (a38:DA K "_law_begun" aJ0)
  (a39:DA K "_law_read" aQs)
  (a40:DA K "_law_word" aQp)
  (a41:DA K "_law_spoilt" aJs)
  (a42:DA K "_law_exchanged" aE4)
  (a43:DA K "_law_drawn" aMr)
  (a44:DA K "_law_refused" aHo)
  (a45:DA K "_law_right" aMo)
  (a46:PySem.W.nsIn K mainGlobals "law"=some (some (.ref f46))) (l46:K.lookup f46=some ⟨oc46,od46,.func (PySem.W.fnOf "law" "law" (aDa aJy) (aCn aJy) (aAh aJy) .none kV46 dc46 pm46 an46 cd46 ct46),sl46⟩) (c46:PySem.W.codeIn K cd46 "law"=true) (k46:PySem.W.keepIn K (.ref f46)=true)
  (bT:PySem.W.nsIn K mainGlobals "TileError"=some (some (.ref xt))) (b0:PySem.W.nsIn K mainGlobals "NoNumber"=some (some (.ref x0))) (b1:PySem.W.nsIn K mainGlobals "NoNet"=some (some (.ref x1))) (b4:PySem.W.nsIn K mainGlobals "TooMany"=some (some (.ref x4))) (b5:PySem.W.nsIn K mainGlobals "NoText"=some (some (.ref x5))) (b10:PySem.W.nsIn K mainGlobals "NoRow"=some (some (.ref x10))) (zV:PySem.W.nsIn K mainGlobals "ValueError"=some none)
  (ga_NoText:PySem.W.findIn K (.ref x5) "__getattribute__"=some (some (.builtin "BaseException.__getattribute__"))) (gt_NoText:PySem.W.findIn K (.ref x5) "__getattr__"=some none) (ca_NoText:PySem.W.findIn K (.ref x5) "__class__"=some (some (.builtin "object.__class__"))) (ob_NoText:PySem.W.subIn K (.ref x5) (.type "object")=some true) (be_NoText:PySem.W.subIn K (.ref x5) (.type "BaseException")=some true) (ic_NoText:PySem.W.clsIn K x5=some cd_NoText) (ex_NoText:PySem.W.excIn K x5 aYa "ValueError.__new__"=true) (ve_NoText:PySem.W.kitOne K (.ref x5) (.type "ValueError")=some true) (tt_NoText:PySem.W.exmOne K (.ref x5) (.ref xt)=some true)
  (k0_NoText:PySem.W.kitOne K (.ref x5) (.ref x0)=some (Nat.beq 0 5)) (k1_NoText:PySem.W.kitOne K (.ref x5) (.ref x1)=some (Nat.beq 1 5)) (k4_NoText:PySem.W.kitOne K (.ref x5) (.ref x4)=some (Nat.beq 4 5)) (k5_NoText:PySem.W.kitOne K (.ref x5) (.ref x5)=some (Nat.beq 5 5)) (k10_NoText:PySem.W.kitOne K (.ref x5) (.ref x10)=some (Nat.beq 10 5))
  (gl_FIGURES:PySem.W.nsIn K mainGlobals "FIGURES"=some (some (.str "0123456789" tk_FIGURES)))
  (gl_MOST_FIGURES:PySem.W.nsIn K mainGlobals "MOST_FIGURES"=some (some (.int 12 tk_MOST_FIGURES)))
  (gl_LETTERS:PySem.W.nsIn K mainGlobals "LETTERS"=some (some (.str "abcdefghijklmnopqrstuvwxyz" tk_LETTERS)))
  (gl_MOST_LETTERS:PySem.W.nsIn K mainGlobals "MOST_LETTERS"=some (some (.int 8 tk_MOST_LETTERS)))
  (gl_MOST_PARTS:PySem.W.nsIn K mainGlobals "MOST_PARTS"=some (some (.int 4 tk_MOST_PARTS)))
  (gl_MOST_PARAMS:PySem.W.nsIn K mainGlobals "MOST_PARAMS"=some (some (.int 8 tk_MOST_PARAMS)))
  (gl_MOST_ROWS:PySem.W.nsIn K mainGlobals "MOST_ROWS"=some (some (.int 60 tk_MOST_ROWS)))
  (gd_FEWEST_POSTS:PySem.W.nsIn K mainGlobals "FEWEST_POSTS"=some (some (.ref ad_FEWEST_POSTS))) (ld_FEWEST_POSTS:K.lookup ad_FEWEST_POSTS=some ⟨.type "dict",none,.dict #[⟨h0_FEWEST_POSTS,.str "row" t0_FEWEST_POSTS,.int 2 u0_FEWEST_POSTS⟩,⟨h1_FEWEST_POSTS,.str "star" t1_FEWEST_POSTS,.int 2 u1_FEWEST_POSTS⟩,⟨h2_FEWEST_POSTS,.str "ring" t2_FEWEST_POSTS,.int 3 u2_FEWEST_POSTS⟩] ep_FEWEST_POSTS,#[]⟩) (e0_FEWEST_POSTS:h0_FEWEST_POSTS=aSz w (Sum.inr "row")) (e1_FEWEST_POSTS:h1_FEWEST_POSTS=aSz w (Sum.inr "star")) (e2_FEWEST_POSTS:h2_FEWEST_POSTS=aSz w (Sum.inr "ring")) (ns_FEWEST_POSTS:(ad_FEWEST_POSTS==sysModules)=false)
  (z_int:PySem.W.nsIn K mainGlobals "int"=some none)
  (z_bool:PySem.W.nsIn K mainGlobals "bool"=some none)
  (z_str:PySem.W.nsIn K mainGlobals "str"=some none)
  (z_list:PySem.W.nsIn K mainGlobals "list"=some none)
  (z_tuple:PySem.W.nsIn K mainGlobals "tuple"=some none)
  (z_dict:PySem.W.nsIn K mainGlobals "dict"=some none)
  (z_set:PySem.W.nsIn K mainGlobals "set"=some none)
  (z_range:PySem.W.nsIn K mainGlobals "range"=some none)
  (z_enumerate:PySem.W.nsIn K mainGlobals "enumerate"=some none)
  (z_zip:PySem.W.nsIn K mainGlobals "zip"=some none)
  (z_reversed:PySem.W.nsIn K mainGlobals "reversed"=some none)
  (z_len:PySem.W.nsIn K mainGlobals "len"=some none)
  (z_abs:PySem.W.nsIn K mainGlobals "abs"=some none)
  (z_max:PySem.W.nsIn K mainGlobals "max"=some none)
  (z_min:PySem.W.nsIn K mainGlobals "min"=some none)
  (z_isinstance:PySem.W.nsIn K mainGlobals "isinstance"=some none)
  (z_sorted:PySem.W.nsIn K mainGlobals "sorted"=some none)
  (z_all:PySem.W.nsIn K mainGlobals "all"=some none)
  (z_any:PySem.W.nsIn K mainGlobals "any"=some none)
  (z_sum:PySem.W.nsIn K mainGlobals "sum"=some none) :
  ∃ fd:FuncData,(∀ (s:Shared) (v:Value),BindsTo s fd ⟨[v],[]⟩ [("_law_script",v)])/\∀ base:Heap,K.In base->base.Ns mainGlobals mg->aNp l.prog w K mg base CX0 11 fa fd ["_law_script"] (aS7 K):=by
 have e:=hfa.symm.trans (PySem.W.mg_of X G a46)
 cases e
 have T:Bl mg:=⟨PySem.W.mg_none_of X G z_int,PySem.W.mg_none_of X G z_bool,PySem.W.mg_none_of X G z_str,PySem.W.mg_none_of X G z_list,PySem.W.mg_none_of X G z_tuple,PySem.W.mg_none_of X G z_dict,PySem.W.mg_none_of X G z_set,PySem.W.mg_none_of X G z_range,PySem.W.mg_none_of X G z_enumerate,PySem.W.mg_none_of X G z_zip,PySem.W.mg_none_of X G z_reversed,PySem.W.mg_none_of X G z_len,PySem.W.mg_none_of X G z_abs,PySem.W.mg_none_of X G z_max,PySem.W.mg_none_of X G z_min,PySem.W.mg_none_of X G z_isinstance,PySem.W.mg_none_of X G z_sorted,PySem.W.mg_none_of X G z_all,PySem.W.mg_none_of X G z_any,PySem.W.mg_none_of X G z_sum⟩
 have W:XmS mg xt x0 x1 x4 x5 x10:=⟨PySem.W.mg_of X G bT,PySem.W.mg_of X G b0,PySem.W.mg_of X G b1,PySem.W.mg_of X G b4,PySem.W.mg_of X G b5,PySem.W.mg_of X G b10,PySem.W.mg_none_of X G zV⟩
 have R_NoText:XrS K xt x0 x1 x4 x5 x10 x5 5:=⟨⟨ga_NoText,gt_NoText,ca_NoText,ob_NoText,be_NoText,by rw [ic_NoText]; rfl⟩,.ve ex_NoText,ve_NoText,tt_NoText,k0_NoText,k1_NoText,k4_NoText,k5_NoText,k10_NoText⟩
 have kd_FEWEST_POSTS:aVp l.prog w K ad_FEWEST_POSTS [(Sum.inr "row",.int 2),(Sum.inr "star",.int 2),(Sum.inr "ring",.int 3)]:=aVp.of3 ld_FEWEST_POSTS e0_FEWEST_POSTS e1_FEWEST_POSTS e2_FEWEST_POSTS ns_FEWEST_POSTS (by decide +kernel)
 have FL:=bBy (st:=aJy) l46 c46 k46
 refine ⟨PySem.W.fnOf "law" "law" (aDa aJy) (aCn aJy) (aAh aJy) .none kV46 dc46 pm46 an46 cd46 ct46,fun s v=>.of_eq rfl,fun base _ _=>?_⟩
 have o_is_whole:=aM6 (P:=l.prog) (w:=w) (base:=base) (k:=0) T (a0.df X G fun _ _ _ _ _ _=>aIc fun _=>rfl) W R_NoText
 have o_common_divisor:=aF7 (P:=l.prog) (w:=w) (base:=base) (k:=0) T (a1.df X G fun _ _ _ _ _ _=>aKu fun _ _=>rfl) W R_NoText
 have o_is_fraction:=aIq (k:=1) T (a2.df X G fun _ _ _ _ _ _=>aIc fun _=>rfl) W R_NoText (o_common_divisor.mono (by decide)) (o_is_whole.mono (by decide))
 have o_is_written:=aJ9 (P:=l.prog) (w:=w) (base:=base) (k:=0) T (a3.df X G fun _ _ _ _ _ _=>aKu fun _ _=>rfl) W R_NoText (PySem.W.mg_of X G gl_FIGURES)
 have o_read_time:=aLn (k:=2) T (a4.df X G fun _ _ _ _ _ _=>aIc fun _=>rfl) W R_NoText (PySem.W.mg_of X G gl_MOST_FIGURES) (o_is_fraction.mono (by decide)) (o_is_written.mono (by decide))
 have o_is_part:=aPj (P:=l.prog) (w:=w) (base:=base) (k:=0) T (a5.df X G fun _ _ _ _ _ _=>aIc fun _=>rfl) W R_NoText (PySem.W.mg_of X G gl_LETTERS) (PySem.W.mg_of X G gl_MOST_LETTERS)
 have o_is_post:=aPi (k:=1) T (a6.df X G fun _ _ _ _ _ _=>aIc fun _=>rfl) W R_NoText (PySem.W.mg_of X G gl_MOST_PARTS) (o_is_part.mono (by decide))
 have o_refuse_unless:=aGo (P:=l.prog) (w:=w) (base:=base) (k:=0) T (a7.df X G fun _ _ _ _ _ _=>aKu fun _ _=>rfl) W R_NoText
 have o_posts_in:=aM2 (k:=2) T (a8.df X G fun _ _ _ _ _ _=>aKu fun _ _=>rfl) W R_NoText (o_is_post.mono (by decide)) (o_refuse_unless.mono (by decide))
 have o_time_in:=aPg (k:=3) T (a9.df X G fun _ _ _ _ _ _=>aKu fun _ _=>rfl) W R_NoText (o_refuse_unless.mono (by decide)) (o_read_time.mono (by decide))
 have o_run_in:=aRc (k:=4) T (a10.df X G fun _ _ _ _ _ _=>aIc fun _=>rfl) W R_NoText (o_time_in.mono (by decide)) (o_posts_in.mono (by decide)) (o_refuse_unless.mono (by decide))
 have o_posts_row_in:=aHy (k:=4) T (a11.df X G fun _ _ _ _ _ _=>aIc fun _=>rfl) W R_NoText (PySem.W.mg_of X G gd_FEWEST_POSTS) kd_FEWEST_POSTS (o_posts_in.mono (by decide)) (o_time_in.mono (by decide)) (o_refuse_unless.mono (by decide))
 have o_put_in:=aRd (k:=3) T (a12.df X G fun _ _ _ _ _ _=>aKu fun _ _=>rfl) W R_NoText (o_posts_in.mono (by decide)) (o_refuse_unless.mono (by decide)) (o_is_part.mono (by decide))
 have o_plain_row_in:=aHz (k:=5) T (a13.df X G fun _ _ _ _ _ _=>aKu fun _ _=>rfl) W R_NoText (PySem.W.mg_of X G gd_FEWEST_POSTS) kd_FEWEST_POSTS (o_put_in.mono (by decide)) (o_refuse_unless.mono (by decide)) (o_posts_row_in.mono (by decide)) (o_run_in.mono (by decide))
 have o_piece_in:=aM4 (k:=6) T (a14.df X G fun _ _ _ _ _ _=>aKu fun _ _=>rfl) W R_NoText (PySem.W.mg_of X G gl_MOST_PARAMS) (o_plain_row_in.mono (by decide)) (o_refuse_unless.mono (by decide)) (o_is_part.mono (by decide))
 have o_end_behind:=aKa (P:=l.prog) (w:=w) (base:=base) (k:=0) T (a15.df X G fun _ _ _ _ _ _=>aKu fun _ _=>rfl) W R_NoText
 have o_lines_in:=aM5 (P:=l.prog) (w:=w) (base:=base) (k:=0) T (a16.df X G fun _ _ _ _ _ _=>aIc fun _=>rfl) W R_NoText (PySem.W.mg_of X G gl_MOST_ROWS)
 have o_read_rows:=aLo (k:=7) T (a17.df X G fun _ _ _ _ _ _=>aIc fun _=>rfl) W R_NoText (o_piece_in.mono (by decide)) (o_end_behind.mono (by decide)) (o_plain_row_in.mono (by decide)) (o_lines_in.mono (by decide))
 have o_cell_at:=aPm (P:=l.prog) (w:=w) (base:=base) (k:=0) T (a18.df X G fun _ _ _ _ _ _=>aKu fun _ _=>rfl) W R_NoText
 have o_number:=aRe (k:=1) T (a19.df X G fun _ _ _ _ _ _=>aKu fun _ _=>rfl) W R_NoText (o_cell_at.mono (by decide))
 have o_lowest:=aRf (P:=l.prog) (w:=w) (base:=base) (k:=0) T (a20.df X G fun _ _ _ _ _ _=>aKu fun _ _=>rfl) W R_NoText
 have o_names:=aTv (k:=2) T (a21.df X G fun _ _ _ _ _ _=>aIc fun _=>rfl) W R_NoText (o_number.mono (by decide))
 have o_post:=aW2 (P:=l.prog) (w:=w) (base:=base) (k:=0) T (a22.df X G fun _ _ _ _ _ _=>aKu fun _ _=>rfl) W R_NoText
 have o_time:=aWz (k:=1) T (a23.df X G fun _ _ _ _ _ _=>aIc fun _=>rfl) W R_NoText (o_lowest.mono (by decide))
 have o_posts:=aTt (k:=1) T (a24.df X G fun _ _ _ _ _ _=>aX9 fun _ _ _=>rfl) W R_NoText (o_post.mono (by decide))
 have o_plain:=aTu (k:=2) T (a25.df X G fun _ _ _ _ _ _=>aKu fun _ _=>rfl) W R_NoText (o_time.mono (by decide)) (o_posts.mono (by decide))
 have o_row:=bBc (k:=3) T (a26.df X G fun _ _ _ _ _ _=>aX9 fun _ _ _=>rfl) W R_NoText (o_plain.mono (by decide)) (o_posts.mono (by decide))
 have o_closed:=aRg (P:=l.prog) (w:=w) (base:=base) (k:=0) T (a27.df X G fun _ _ _ _ _ _=>aIc fun _=>rfl) W R_NoText
 have o_time_text:=aLl (P:=l.prog) (w:=w) (base:=base) (k:=0) T (a28.df X G fun _ _ _ _ _ _=>aIc fun _=>rfl) W R_NoText
 have o_row_texts_in:=aHx (P:=l.prog) (w:=w) (base:=base) (k:=1) T (a29.df X G fun _ _ _ _ _ _=>aIc fun _=>rfl) W R_NoText (o_time_text.mono (by decide))
 have o_row_texts:=aLm (k:=2) T (a29.df X G fun _ _ _ _ _ _=>aIc fun _=>rfl) W R_NoText (o_row_texts_in.mono (by decide)) (o_time_text.mono (by decide))
 have o_next:=aW3 (k:=4) T (a30.df X G fun _ _ _ _ _ _=>aX9 fun _ _ _=>rfl) W R_NoText (o_closed.mono (by decide)) (o_row_texts.mono (by decide)) (o_row.mono (by decide))
 have o_built:=aTx (k:=5) T (a31.df X G fun _ _ _ _ _ _=>aX9 fun _ _ _=>rfl) W R_NoText (o_closed.mono (by decide)) (o_number.mono (by decide)) (o_next.mono (by decide)) (o_names.mono (by decide))
 have o_text:=aW0 (k:=3) T (a32.df X G fun _ _ _ _ _ _=>aIc fun _=>rfl) W R_NoText (o_row_texts.mono (by decide))
 have o_is_name:=aPk (P:=l.prog) (w:=w) (base:=base) (k:=0) T (a33.df X G fun _ _ _ _ _ _=>aIc fun _=>rfl) W R_NoText
 have o_l_is_post:=aLp (k:=1) T (a34.df X G fun _ _ _ _ _ _=>aIc fun _=>rfl) W R_NoText (o_is_name.mono (by decide))
 have o_figures:=aPl (P:=l.prog) (w:=w) (base:=base) (k:=0) T (a35.df X G fun _ _ _ _ _ _=>aIc fun _=>rfl) W R_NoText
 have o_time_of:=aPf (k:=1) T (a36.df X G fun _ _ _ _ _ _=>aIc fun _=>rfl) W R_NoText (o_lowest.mono (by decide)) (o_figures.mono (by decide))
 have o_plain_of:=aM3 (k:=2) T (a37.df X G fun _ _ _ _ _ _=>aKu fun _ _=>rfl) W R_NoText (o_is_name.mono (by decide)) (o_time_of.mono (by decide)) (o_l_is_post.mono (by decide))
 have o_begun:=aTy (k:=1) T (a38.df X G fun _ _ _ _ _ _=>aKu fun _ _=>rfl) W R_NoText (o_is_name.mono (by decide))
 have o_read:=aW1 (k:=3) T (a39.df X G fun _ _ _ _ _ _=>aIc fun _=>rfl) W R_NoText (o_begun.mono (by decide)) (o_plain_of.mono (by decide))
 have o_word:=aWy (P:=l.prog) (w:=w) (base:=base) (k:=0) T (a40.df X G fun _ _ _ _ _ _=>aKu fun _ _=>rfl) W R_NoText
 have o_spoilt:=aRb (k:=1) T (a41.df X G fun _ _ _ _ _ _=>aX9 fun _ _ _=>rfl) W R_NoText (o_word.mono (by decide))
 have o_exchanged:=aLq (P:=l.prog) (w:=w) (base:=base) (k:=0) T (a42.df X G fun _ _ _ _ _ _=>aKu fun _ _=>rfl) W R_NoText
 have o_drawn:=aTw (k:=2) T (a43.df X G fun _ _ _ _ _ _=>aX9 fun _ _ _=>rfl) W R_NoText (o_spoilt.mono (by decide)) (o_exchanged.mono (by decide)) (o_word.mono (by decide))
 have o_refused:=aPh (k:=8) T (a44.df X G fun _ _ _ _ _ _=>aIc fun _=>rfl) W R_NoText (o_read_rows.mono (by decide))
 have o_right:=aTs (k:=9) T (a45.df X G fun _ _ _ _ _ _=>aIc fun _=>rfl) W R_NoText (o_read_rows.mono (by decide)) (o_refused.mono (by decide)) (o_read.mono (by decide))
 exact bBd (k:=10) T FL W R_NoText (o_right.mono (by decide)) (o_refused.mono (by decide)) (o_number.mono (by decide)) (o_drawn.mono (by decide)) (o_built.mono (by decide)) (o_text.mono (by decide)) (o_names.mono (by decide))
theorem walk {l:PySem.W.OpenLaw} {q:Program} {loose:List Str} {XP:(Str->Option Value)->Heap->Prop} {YP:World->Heap->Prop} {d:DefRec} {K:Params->PySem.W.Frag} (hn:l.most=some 63) (hdf:d.params.defaults=[])
  (hY:∀ (w:World) (h:Heap),YP w h->(K w.params).In h)
  (F:∀ (w:World) (mg:Str->Option Value) (fa:Addr) (h:Heap),(K w.params).In h->h.Ns mainGlobals mg->mg d.name=some (.ref fa) ->
   ∃ fd:FuncData,(∀ (s:Shared) (u:Value),BindsTo s fd ⟨[u],[]⟩ [("_law_script",u)])/\∀ base:Heap,(K w.params).In base->base.Ns mainGlobals mg->aNp l.prog w (K w.params) mg base CX0 11 fa fd ["_law_script"] (aS7 (K w.params))) :
  PySem.W.WalkO q loose XP YP l.row.toRowW d [] (fun f vs=>PySem.call f vs) :=
 L2.walk_of (n:=63) (k:=11) (x:="_law_script") (CX:=fun _=>CX0) (sp:=fun w=>aS7 (K w.params)) hn (by decide) hdf ⟨rfl,by decide,by decide⟩ hY F (fun _ _ a ns hl _ hS=>⟨a,ns,rfl,hS,hl,fun _=>rfl⟩) fun _ _ _ _ _ z=>z
open PySem.W in
theorem zwalk {q:Program} {loose:List Str} {XP:(Str->Option Value)->Heap->Prop} {r:RowW} {d:DefRec} {kwd:List (Str×Expr)} {run:Value->List Value->Sem Value} {K:Params->Frag} {as:List Addr} {n t:Nat} (e:∀ P:Params,as=List.map (fun x=>x.fst) (K P))
  (W:WalkO q loose XP (kHook K as e).says r d kwd run):WalkX q loose XP (X.obsZ as) (X.valZ K n t) r d kwd run :=
 fun w s₀ s₁ mg mb G y a o pm cd doc dV kV ho hd hcd hD hmg hg args vals as' L hpre hlay hrd hwl hlo =>
  W w s₀ s₁ mg mb G ((kHook K as e).keeps w s₀.heap s₁.heap ((kHook K as e).of w s₀ (congrArg Prod.fst y)) L.keeps) a o pm cd doc dV kV ho hd hcd hD hmg hg args vals as' hpre hlay hrd hwl hlo
end Lw
local macro_rules | `(tactic| walk_at "df") => `(tactic| (refine' Lw.DA.of ?a ?l ?c ?k; (case a => k_is); (case l => k_is); (case c => k_is); (case k => k_is)))
open PySem PySem.W PyProof.Rows
set_option maxRecDepth 100000 in
set_option maxHeartbeats 0 in
theorem PySem.Challenge.cw_tilefall_k72_no_rows_holds : PySem.Challenge.rw_tilefall_k72_no_rows.Holds := by
  w_on; o_law; z_head; (case hw => w_witness2)
  k_fill
  refine Lw.zwalk (fun _ => rfl) ?_
  refine Lw.walk (l := PySem.Challenge.rw_tilefall_k72_no_rows) rfl rfl (fun w h Y => PySem.W.kIn_of Y) ?F
  case F =>
    intro w mg fa h KX G hmg
    refine' Lw.all_mk KX G hmg ?a0 ?a1 ?a2 ?a3 ?a4 ?a5 ?a6 ?a7 ?a8 ?a9 ?a10 ?a11 ?a12 ?a13 ?a14 ?a15 ?a16 ?a17 ?a18 ?a19 ?a20 ?a21 ?a22 ?a23 ?a24 ?a25 ?a26 ?a27 ?a28 ?a29 ?a30 ?a31 ?a32 ?a33 ?a34 ?a35 ?a36 ?a37 ?a38 ?a39 ?a40 ?a41 ?a42 ?a43 ?a44 ?a45 ?a46 ?l46 ?c46 ?k46 ?bT ?b0 ?b1 ?b4 ?b5 ?b10 ?zV ?ga_NoText ?gt_NoText ?ca_NoText ?ob_NoText ?be_NoText ?ic_NoText ?ex_NoText ?ve_NoText ?tt_NoText ?k0_NoText ?k1_NoText ?k4_NoText ?k5_NoText ?k10_NoText ?gl_FIGURES ?gl_MOST_FIGURES ?gl_LETTERS ?gl_MOST_LETTERS ?gl_MOST_PARTS ?gl_MOST_PARAMS ?gl_MOST_ROWS ?gd_FEWEST_POSTS ?ld_FEWEST_POSTS ?e0_FEWEST_POSTS ?e1_FEWEST_POSTS ?e2_FEWEST_POSTS ?ns_FEWEST_POSTS ?z_int ?z_bool ?z_str ?z_list ?z_tuple ?z_dict ?z_set ?z_range ?z_enumerate ?z_zip ?z_reversed ?z_len ?z_abs ?z_max ?z_min ?z_isinstance ?z_sorted ?z_all ?z_any ?z_sum
    (case a0 | a1 | a2 | a3 | a4 | a5 | a6 | a7 | a8 | a9 | a10 | a11 | a12 | a13 | a14 | a15 | a16 | a17 | a18 | a19 | a20 | a21 | a22 | a23 | a24 | a25 | a26 | a27 | a28 | a29 | a30 | a31 | a32 | a33 | a34 | a35 | a36 | a37 | a38 | a39 | a40 | a41 | a42 | a43 | a44 | a45 => walk_at "df")
    (case a46 => k_is); (case l46 => k_is); (case c46 => k_is); (case k46 => k_is)
    (case bT => k_is)
    (case b0 => k_is)
    (case b1 => k_is)
    (case b4 => k_is)
    (case b5 => k_is)
    (case b10 => k_is)
    (case zV => k_is)
    (case ga_NoText => k_is)
    (case gt_NoText => k_is)
    (case ca_NoText => k_is)
    (case ob_NoText => k_is)
    (case be_NoText => k_is)
    (case ic_NoText => k_is)
    (case ex_NoText => k_exc)
    (case ve_NoText => kit_is)
    (case tt_NoText => kts_exm)
    (case k0_NoText => kit_is)
    (case k1_NoText => kit_is)
    (case k4_NoText => kit_is)
    (case k5_NoText => kit_is)
    (case k10_NoText => kit_is)
    (case gl_FIGURES => k_is)
    (case gl_MOST_FIGURES => k_is)
    (case gl_LETTERS => k_is)
    (case gl_MOST_LETTERS => k_is)
    (case gl_MOST_PARTS => k_is)
    (case gl_MOST_PARAMS => k_is)
    (case gl_MOST_ROWS => k_is)
    (case gd_FEWEST_POSTS => k_is); (case ld_FEWEST_POSTS => k_is); (case e0_FEWEST_POSTS => exact rfl); (case e1_FEWEST_POSTS => exact rfl); (case e2_FEWEST_POSTS => exact rfl); (case ns_FEWEST_POSTS => first | exact rfl | k_is)
    (case z_int => k_is)
    (case z_bool => k_is)
    (case z_str => k_is)
    (case z_list => k_is)
    (case z_tuple => k_is)
    (case z_dict => k_is)
    (case z_set => k_is)
    (case z_range => k_is)
    (case z_enumerate => k_is)
    (case z_zip => k_is)
    (case z_reversed => k_is)
    (case z_len => k_is)
    (case z_abs => k_is)
    (case z_max => k_is)
    (case z_min => k_is)
    (case z_isinstance => k_is)
    (case z_sorted => k_is)
    (case z_all => k_is)
    (case z_any => k_is)
    (case z_sum => k_is)
#print axioms PySem.Challenge.cw_tilefall_k72_no_rows_holds
